"""The error classes and how they stand to one another."""

import unittest

from storeway import errors
from storeway.errors import BadLag, BadRow, NoPart, Ring, TooMany, WorksError
from storeway.works import read

BENEATH = (BadRow, NoPart, TooMany, Ring, BadLag)


class ErrorClasses(unittest.TestCase):
    def test_works_error_is_a_value_error(self):
        self.assertTrue(issubclass(WorksError, ValueError))

    def test_each_is_beneath_works_error(self):
        for error in BENEATH:
            self.assertTrue(issubclass(error, WorksError), error)
            self.assertIsNot(error, WorksError)

    def test_none_is_beneath_another(self):
        for one in BENEATH:
            for other in BENEATH:
                self.assertEqual(issubclass(one, other), one is other, (one, other))

    def test_they_are_there_by_their_names(self):
        for name in ("WorksError", "BadRow", "NoPart", "TooMany", "Ring", "BadLag"):
            self.assertEqual(getattr(errors, name).__name__, name)

    def test_row_is_a_whole_number(self):
        for error, text in ((BadRow, "a in 0\nbad"), (NoPart, "a in 0\no out 0 b")):
            with self.assertRaises(error) as caught:
                read(text)
            self.assertEqual(caught.exception.row, 1)
            self.assertIs(caught.exception.row.__class__, int)


if __name__ == "__main__":
    unittest.main()
