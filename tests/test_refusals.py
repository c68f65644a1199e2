"""[5] and [6]: what is refused, with which error and row, and which refusal comes ahead of which."""

import unittest

from storeway.errors import BadLag, BadRow, NoPart, Ring, TooMany, WorksError
from storeway.works import read

ALL_ERRORS = (BadRow, NoPart, TooMany, Ring, BadLag)

# Each of these rows is at fault by itself, where a part a gives a line and no part is called bad.
FAULTY_ROWS = (
    # its words
    "bad", "bad in", "bad and", "bad in 0 a", "bad out 0", "bad out 0 a a",
    "bad and 1", "bad and 1 a", "bad and 1 a a a", "bad or 1 a", "bad odd 1 a a a", "bad plus 1 a",
    "bad pick 1 a a", "bad pick 1 a a a a", "bad up:1 1", "bad up:1 1 a a", "bad down:1 1", "bad down:1 1 a a",
    "bad 1 and a a", "and bad 1 a a", "bad and 1 a,a", "bad and 1 a a #",
    # its kind
    "bad xor 1 a a", "bad up 1 a", "bad down 1 a", "bad up: 1 a", "bad up:0 1 a", "bad up:64 1 a",
    "bad up:03 1 a", "bad down:64 1 a", "bad down:+3 1 a", "bad up :3 1 a", "bad up: 3 1 a", "bad in:1 0",
    "bad AND 1 a a", "bad And 1 a a", "bad up:\u0663 1 a", "bad \u0430nd 1 a a", "bad up:" + "9" * 5000 + " 1 a",
    # its numbers
    "bad and 1001 a a", "bad and 01 a a", "bad and 00 a a", "bad and -1 a a", "bad and +1 a a", "bad and 1.0 a a",
    "bad and x a a", "bad and 1_0 a a", "bad and 9999 a a", "bad and 10000 a a", "bad and \u0663 a a",
    "bad and \u00b2 a a", "bad and \uff11 a a", "bad and " + "9" * 5000 + " a a", "bad and " + "0" * 5000 + " a a",
    "bad in 1", "bad in 1000", "bad in 00", "bad out 1 a", "bad out 1000 a",
    "bad and 1 a/101 a", "bad and 1 a a/101", "bad and 1 a/ a", "bad and 1 a a/", "bad and 1 a/01 a",
    "bad and 1 a/00 a", "bad and 1 a/-1 a", "bad and 1 a/+1 a", "bad and 1 a/1/1 a", "bad and 1 a//1 a",
    "bad and 1 a/x a", "bad and 1 a/1.0 a", "bad and 1 a/1_0 a", "bad and 1 a/\u0661 a", "bad and 1 a/1000 a",
    "bad and 1 a /1 a", "bad and 1 a/ 1 a", "bad and 1 a/" + "1" * 5000 + " a",
    # a word that is no name
    "Bad and 1 a a", "bad_ and 1 a a", "ninesigns and 1 a a", "b-d and 1 a a", "b\u00e0d and 1 a a",
    "b\u0430d and 1 a a", "bad\u0663 and 1 a a", "\uff42ad and 1 a a", "bad/1 and 1 a a", "bad: and 1 a a",
    "bad and 1 A a", "bad and 1 a A", "bad and 1 ninesigns a", "bad and 1 a ninesigns/1", "bad and 1 /1 a",
    "bad and 1 / a", "bad and 1 a_/1 a", "bad and 1 a:1 a", "bad and 1 \u0430 a", "bad and 1 a \u0663/1",
    # a name that stood ahead
    "a in 0", "a and 1 a/1 a/1", "a out 0 a",
    # other signs than blanks are of a word
    "bad\tand 1 a a", "bad and\t1 a a", "bad and 1\ta a", "bad and 1 a\ta", "bad and 1 a a\t", "\tbad and 1 a a",
    "bad and 1 a a\r", "bad and 1 a a \r", "bad and 1 a\u00a0a", "bad and 1 a\u3000a", "bad and 1 a a\x0b",
    "bad and 1 a a\x0c", "bad and 1 a a\x1c", "bad and 1 a a\x85", "bad and 1 a a\u2028b in 0",
    "bad and 1 a a\x00", "\ufeffbad and 1 a a", "bad and 1 a a\x1f", "\t", " \r ", "\u00a0", "\x0c", "\u2003", "\x00",
)
# Faulty also as a works' first row, where no name stood ahead.
FIRST_FAULTY = tuple(row for row in FAULTY_ROWS if row.split(" ")[0] != "a")


def ups(count, start="a"):
    """Rows of so many parts, none at fault, all fed by one."""
    return [f"u{place} up:1 1 {start}" for place in range(count)]


class Refusing(unittest.TestCase):
    def refused(self, text, error, row=None):
        with self.assertRaises(WorksError) as caught:
            read(text)
        self.assertIs(caught.exception.__class__, error, repr(text[:300]))
        for other in ALL_ERRORS:
            self.assertEqual(isinstance(caught.exception, other), other is error)
        self.assertIsInstance(caught.exception, ValueError)
        if row is not None:
            self.assertEqual(caught.exception.row, row, repr(text[:300]))
            self.assertIs(caught.exception.row.__class__, int)


class BadRows(Refusing):
    def test_the_rows_beside_the_fault_are_right(self):
        read("\n".join(["a in 0"] + ups(3)))

    def test_at_the_first_row(self):
        for row in FIRST_FAULTY:
            self.refused("\n".join([row, "a in 0"] + ups(2)), BadRow, 0)

    def test_alone(self):
        for row in FIRST_FAULTY:
            self.refused(row, BadRow, 0)

    def test_at_a_middle_row(self):
        for row in FAULTY_ROWS:
            self.refused("\n".join(["a in 0", "m up:1 1 a", row] + ups(2)), BadRow, 2)

    def test_at_the_last_row(self):
        for row in FAULTY_ROWS:
            self.refused("\n".join(["a in 0"] + ups(4) + [row]), BadRow, 5)

    def test_blank_rows_ahead_are_counted(self):
        for row in FAULTY_ROWS:
            self.refused("\n  \na in 0\n\n" + row, BadRow, 4)
        for row in FIRST_FAULTY:
            self.refused("\n\n \n" + row + "\na in 0", BadRow, 3)

    def test_of_two_faulty_rows_the_first(self):
        for row in FIRST_FAULTY:
            self.refused("\n".join(["a in 0", row, "", "bad"]), BadRow, 1)
            self.refused("\n".join(["a in 0", "bad", "", row]), BadRow, 1)

    def test_a_name_that_stood_ahead_is_told_where_it_stands_again(self):
        self.refused("a in 0\nb in 0\n\na in 0\nb in 0", BadRow, 3)
        self.refused("a in 0\nb up:1 1 a\nb up:1 1 a", BadRow, 2)

    def test_a_name_that_only_a_line_told_ahead_is_no_fault(self):
        read("b up:1 1 a\na in 0")

    def test_signs_that_part_rows_elsewhere_do_not_here(self):
        for sign in "\r\x0b\x0c\x1c\x1d\x1e\x85\u2028\u2029":
            self.refused("a in 0" + sign + "b in 0", BadRow, 0)
            self.refused("a in 0" + sign + "\nb in 0", BadRow, 0)
            self.refused("a in 0\nb in 0" + sign, BadRow, 1)
            self.refused("a in 0\n" + sign + "\nb in 0", BadRow, 1)

    def test_times_and_stores_just_beyond(self):
        read("a in 0\nb up:63 1000 a/100")
        self.refused("a in 0\nb up:64 1000 a/100", BadRow, 1)
        self.refused("a in 0\nb up:63 1001 a/100", BadRow, 1)
        self.refused("a in 0\nb up:63 1000 a/101", BadRow, 1)


class PartCounts(Refusing):
    def test_a_text_without_parts(self):
        for text in ("", " ", "\n", "\n\n   \n", "     "):
            self.refused(text, TooMany)

    def test_60_parts_are_taken_and_61_are_not(self):
        self.assertEqual(len(read("\n".join(["a in 0"] + ups(59))).names()), 60)
        self.refused("\n".join(["a in 0"] + ups(60)), TooMany)
        self.refused("\n".join(["a in 0"] + ups(61)), TooMany)
        self.refused("\n".join(["a in 0"] + ups(300)), TooMany)

    def test_blank_rows_are_no_parts(self):
        self.assertEqual(len(read("\n \n".join(["a in 0"] + ups(59)) + "\n" * 70).names()), 60)
        self.refused("\n\n".join(["", "a in 0"] + ups(60)), TooMany)

    def test_a_fault_at_the_61st_row_of_a_part(self):
        for row in FAULTY_ROWS:
            self.refused("\n".join(["a in 0"] + ups(59) + [row]), BadRow, 60)
            self.refused("\n".join(["", "a in 0", " "] + ups(59) + ["", row]), BadRow, 63)

    def test_a_fault_ahead_of_the_61st(self):
        for row in FAULTY_ROWS:
            self.refused("\n".join(["a in 0"] + ups(58) + [row, "y in 0", "z in 0"]), BadRow, 59)
            self.refused("\n".join(["a in 0", row] + ups(80)), BadRow, 1)

    def test_a_fault_behind_the_61st(self):
        for row in FAULTY_ROWS:
            self.refused("\n".join(["a in 0"] + ups(60) + [row]), TooMany)

    def test_a_name_that_stood_ahead_at_the_61st(self):
        self.refused("\n".join(["a in 0"] + ups(59) + ["u58 up:1 1 a"]), BadRow, 60)

    def test_too_many_parts_come_ahead_of_loose_lines_and_rings(self):
        self.refused("\n".join(["a in 0"] + ups(60, "none")), TooMany)
        self.refused("\n".join(["a and 1 a a"] + ups(60)), TooMany)


class LooseLines(Refusing):
    def test_a_line_from_no_part(self):
        self.refused("o out 0 a", NoPart, 0)
        self.refused("a in 0\no out 0 b", NoPart, 1)
        self.refused("a in 0\nx and 1 a b/3\no out 0 x", NoPart, 1)
        self.refused("a in 0\nx pick 1 a a b\no out 0 x", NoPart, 1)
        self.refused("a in 0\nb up:1 1 a\no out 0 c/1", NoPart, 2)

    def test_a_line_from_an_out(self):
        self.refused("a in 0\no out 0 a\nx up:1 1 o", NoPart, 2)
        self.refused("x up:1 1 o/2\na in 0\no out 0 a", NoPart, 0)
        self.refused("a in 0\no out 0 a\nx and 1 a o/1\nq out 0 x", NoPart, 2)
        self.refused("a in 0\no out 0 a\nq out 0 o/1", NoPart, 2)

    def test_an_out_that_feeds_itself(self):
        self.refused("o out 0 o", NoPart, 0)
        self.refused("a in 0\no out 0 o/1", NoPart, 1)

    def test_blank_rows_are_counted(self):
        self.refused("\n\na in 0\n  \no out 0 b\n", NoPart, 4)
        self.refused("\na in 0\n\n\no out 0 a\n\nx up:1 1 o", NoPart, 6)

    def test_the_first_such_row(self):
        self.refused("a in 0\nx up:1 1 none\no out 0 x\ny up:1 1 o", NoPart, 1)
        self.refused("a in 0\ny up:1 1 o\nx up:1 1 none\no out 0 x", NoPart, 1)

    def test_bad_rows_come_ahead_wherever_they_stand(self):
        self.refused("x up:1 1 none\na in 0\nbad", BadRow, 2)
        self.refused("bad\nx up:1 1 none\na in 0", BadRow, 0)
        self.refused("a in 0\no out 0 a\nx up:1 1 o\n\nx up:1 1 a", BadRow, 4)

    def test_loose_lines_come_ahead_of_rings(self):
        self.refused("r and 1 r r\na in 0\nx up:1 1 none", NoPart, 2)
        self.refused("x up:1 1 none\nr and 1 r r", NoPart, 0)
        self.refused("r and 1 r o\no out 0 r", NoPart, 0)


class Rings(Refusing):
    def test_a_ring_of_one_part(self):
        self.refused("r up:1 1 r", Ring)
        self.refused("a in 0\nr plus 0 a r\no out 0 r", Ring)
        self.refused("a in 0\nr plus 0 a r/0\no out 0 r", Ring)
        self.refused("r plus 0 r/1 r", Ring)

    def test_a_ring_of_one_part_with_a_store(self):
        read("r up:1 1 r/1")
        read("a in 0\nr plus 0 a r/1\no out 0 r")
        read("r plus 0 r/1 r/100")

    def test_a_ring_of_two_parts(self):
        self.refused("x up:1 1 y\ny up:1 1 x", Ring)
        self.refused("x up:1 1 y/0\ny up:1 1 x/0", Ring)
        read("x up:1 1 y/1\ny up:1 1 x")
        read("x up:1 1 y\ny up:1 1 x/1")

    def test_rings_of_many_parts(self):
        for parts in (3, 10, 60):
            rows = [f"p{place} up:1 0 p{(place + 1) % parts}" for place in range(parts)]
            self.refused("\n".join(rows), Ring)
            for place in (0, parts // 2, parts - 1):
                stored = list(rows)
                stored[place] += "/1"
                read("\n".join(stored))

    def test_a_ring_behind_and_ahead_of_other_parts(self):
        self.refused("a in 0\nb up:1 1 a\nx plus 1 b y\ny up:1 1 x\nz up:1 1 y\no out 0 z", Ring)
        self.refused("o out 0 z\nz up:1 1 y\ny up:1 1 x\nx plus 1 b y\nb up:1 1 a\na in 0", Ring)
        read("a in 0\nb up:1 1 a\nx plus 1 b y/1\ny up:1 1 x\nz up:1 1 y\no out 0 z")

    def test_one_of_two_rings(self):
        self.refused("x plus 1 y z\ny up:1 1 x/1\nz up:1 1 x", Ring)
        self.refused("x plus 1 y z\ny up:1 1 x\nz up:1 1 x/1", Ring)
        read("x plus 1 y z\ny up:1 1 x/1\nz up:1 1 x/1")

    def test_two_lines_from_one_part_one_with_a_store(self):
        self.refused("x up:1 1 y\ny plus 1 x/1 x", Ring)
        read("x up:1 1 y/1\ny plus 1 x/1 x")

    def test_ways_that_meet_again_are_no_ring(self):
        read("a in 0\nb up:1 1 a\nc up:1 1 a\nd plus 1 b c\ne plus 1 d a\no out 0 e")
        read("a in 0\nb plus 1 a a\nc plus 1 b b\nd pick 1 c c b\no out 0 d")

    def test_bad_rows_come_ahead(self):
        self.refused("r up:1 1 r\nbad", BadRow, 1)
        self.refused("bad\nr up:1 1 r", BadRow, 0)


if __name__ == "__main__":
    unittest.main()
