"""[3] and [4]: a works read from its text, told, and shown as a text again."""

import unittest

from storeway.kinds import Both, Down, Either, Odd, Pick, Plus, Sink, Source, Up
from storeway.works import Works, read, shown

EVERY_KIND = (
    "a in 0\n"
    "b in 0\n"
    "c and 1 a b\n"
    "d or 2 a/1 c\n"
    "e odd 3 c d/2\n"
    "f plus 4 e f/1\n"
    "g pick 5 a f/3 b\n"
    "h up:3 6 g\n"
    "i down:63 1000 h/100\n"
    "j out 0 i"
)


def chain(parts):
    """The rows of a works of so many parts, each fed by the one ahead."""
    rows = ["p0 in 0"]
    for place in range(1, parts):
        rows.append(f"p{place} up:1 {place} p{place - 1}/{place % 3}")
    return rows


class Reading(unittest.TestCase):
    def test_each_part_is_told(self):
        works = read(EVERY_KIND)
        self.assertIsInstance(works, Works)
        self.assertEqual(works.names(), list("abcdefghij"))
        sorts = (Source, Source, Both, Either, Odd, Plus, Pick, Up, Down, Sink)
        words = ("in", "in", "and", "or", "odd", "plus", "pick", "up:3", "down:63", "out")
        times = (0, 0, 1, 2, 3, 4, 5, 6, 1000, 0)
        for name, sort, word, time in zip("abcdefghij", sorts, words, times):
            self.assertIs(works.kind(name).__class__, sort)
            self.assertEqual(works.kind(name).word(), word)
            self.assertEqual(works.time(name), time)

    def test_lines_in_the_order_of_the_rows_and_words(self):
        self.assertEqual(read(EVERY_KIND).lines(), [
            ("a", "c", 0), ("b", "c", 0),
            ("a", "d", 1), ("c", "d", 0),
            ("c", "e", 0), ("d", "e", 2),
            ("e", "f", 0), ("f", "f", 1),
            ("a", "g", 0), ("f", "g", 3), ("b", "g", 0),
            ("g", "h", 0),
            ("h", "i", 100),
            ("i", "j", 0),
        ])

    def test_lines_are_tuples_in_a_list(self):
        lines = read(EVERY_KIND).lines()
        self.assertIs(lines.__class__, list)
        for line in lines:
            self.assertIs(line.__class__, tuple)
            self.assertEqual([piece.__class__ for piece in line], [str, str, int])

    def test_blanks_do_not_matter(self):
        text = "   a   in 0\nb    plus  7    a a/3   \n o out  0   b/2 "
        works = read(text)
        self.assertEqual(works.names(), ["a", "b", "o"])
        self.assertEqual(works.lines(), [("a", "b", 0), ("a", "b", 3), ("b", "o", 2)])
        self.assertEqual(shown(works), "a in 0\nb plus 7 a a/3\no out 0 b/2")

    def test_blank_rows_are_passed_over(self):
        works = read("\n\n   \na in 0\n \n\no out 0 a\n\n    \n")
        self.assertEqual(works.names(), ["a", "o"])
        self.assertEqual(shown(works), "a in 0\no out 0 a")

    def test_a_part_named_ahead_of_its_own_row(self):
        works = read("o out 0 s/1\ns plus 4 b a\nb up:2 1 a/5\na in 0")
        self.assertEqual(works.names(), ["o", "s", "b", "a"])
        self.assertEqual(works.lines(), [("s", "o", 1), ("b", "s", 0), ("a", "s", 0), ("a", "b", 5)])

    def test_a_part_that_feeds_itself(self):
        self.assertEqual(read("s or 1 s/1 s/2").lines(), [("s", "s", 1), ("s", "s", 2)])

    def test_stores_from_0_to_100(self):
        for stores in range(0, 101):
            works = read(f"a in 0\no out 0 a/{stores}")
            self.assertEqual(works.lines(), [("a", "o", stores)])

    def test_times_from_0_to_1000(self):
        for time in range(0, 1001):
            self.assertEqual(read(f"a in 0\nu up:1 {time} a").time("u"), time)

    def test_names_of_all_signs_and_lengths(self):
        for name in ["abcdefgh", "ijklmnop", "qrstuvwx", "yz012345", "6789", "0", "00000000", "z", "in", "out", "007"]:
            works = read(f"{name} in 0\nu2 up:1 3 {name}/2")
            self.assertEqual(works.names(), [name, "u2"])
            self.assertEqual(works.lines(), [(name, "u2", 2)])

    def test_counts_1_and_63(self):
        for word in ("up:1", "up:63", "down:1", "down:63"):
            self.assertEqual(read(f"a in 0\nb {word} 0 a").kind("b").word(), word)

    def test_a_works_of_one_part(self):
        for text in ("a in 0", "\n a in 0 \n", "s plus 3 s/1 s/1"):
            self.assertEqual(len(read(text).names()), 1)

    def test_works_of_up_to_60_parts(self):
        for parts in (2, 59, 60):
            works = read("\n".join(chain(parts)))
            self.assertEqual(works.names(), [f"p{place}" for place in range(parts)])
            self.assertEqual(len(works.lines()), parts - 1)

    def test_60_parts_with_blank_rows_between(self):
        self.assertEqual(len(read("\n\n" + "\n \n".join(chain(60)) + "\n\n").names()), 60)

    def test_a_works_without_in_or_out(self):
        works = read("x odd 2 y/1 y\ny down:1 3 x/4")
        self.assertEqual(works.names(), ["x", "y"])


class Showing(unittest.TestCase):
    def test_a_text_as_it_is_shown_stays(self):
        for text in (EVERY_KIND, "a in 0", "s plus 1000 s/1 s/100", "\n".join(chain(60)).replace("/0", "")):
            self.assertEqual(shown(read(text)), text)

    def test_nought_stores_are_not_shown(self):
        self.assertEqual(shown(read("a in 0\no out 0 a/0")), "a in 0\no out 0 a")
        self.assertEqual(shown(read("a in 0\no out 0 a/10")), "a in 0\no out 0 a/10")

    def test_nothing_stands_behind_the_last_row(self):
        self.assertEqual(shown(read("a in 0\no out 0 a\n")), "a in 0\no out 0 a")

    def test_reading_again_tells_the_same(self):
        for text in (EVERY_KIND, "\n".join(chain(60)), "  o out  0  s/0\n\ns  plus 9 s/3 a/0 \na in 0\n"):
            works = read(text)
            again = read(shown(works))
            self.assertEqual(again.names(), works.names())
            self.assertEqual(again.lines(), works.lines())
            for name in works.names():
                self.assertEqual(again.kind(name).word(), works.kind(name).word())
                self.assertEqual(again.time(name), works.time(name))
            self.assertEqual(shown(again), shown(works))

    def test_a_part_fed_twice_by_one_part(self):
        text = "a in 0\np pick 2 a/1 a a/2"
        self.assertEqual(shown(read(text)), text)


class NewLists(unittest.TestCase):
    """[1]: a list told is a new one, and changing it changes no works."""

    def test_names(self):
        works = read(EVERY_KIND)
        told = works.names()
        told.append("x")
        told[0] = "y"
        self.assertEqual(works.names(), list("abcdefghij"))
        self.assertEqual(shown(works), EVERY_KIND)
        self.assertIsNot(works.names(), works.names())

    def test_lines(self):
        works = read(EVERY_KIND)
        told = works.lines()
        before = list(told)
        told.clear()
        self.assertEqual(works.lines(), before)
        self.assertEqual(shown(works), EVERY_KIND)
        self.assertIsNot(works.lines(), works.lines())

    def test_works_do_not_mix(self):
        first = read("a in 0\no out 0 a/1")
        second = read("b in 0\nq out 0 b/2")
        self.assertEqual(shown(first), "a in 0\no out 0 a/1")
        self.assertEqual(shown(second), "b in 0\nq out 0 b/2")


if __name__ == "__main__":
    unittest.main()
