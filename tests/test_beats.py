"""[9] and [10]: the beat, the arrivals and a longest way without stores."""

import random
import unittest

from reckoned import SMALL, drawn_text, every_way, times_of, way_time
from storeway.beats import arrivals, beat, longest
from storeway.works import read, shown

ROW = ["a in 0"] + [f"p{place} up:1 {place} {'a' if place == 1 else f'p{place - 1}'}" for place in range(1, 60)]


class Beats(unittest.TestCase):
    def check(self, works):
        """The arrivals by what each line asks, and the longest way by its own lines and times."""
        times = times_of(works)
        lines = works.lines()
        told = arrivals(works)
        self.assertIs(told.__class__, dict)
        self.assertEqual(sorted(told), sorted(works.names()))
        for name in works.names():
            self.assertIs(told[name].__class__, int)
            asked = [times[name]]
            asked += [told[start] + times[name] for start, end, stores in lines if end == name and stores == 0]
            self.assertEqual(told[name], max(asked), name)
        self.assertEqual(beat(works), max(told.values()))
        self.assertIs(beat(works).__class__, int)
        way = longest(works)
        self.assertIs(way.__class__, list)
        self.assertNotEqual(way, [])
        for name, other in zip(way, way[1:]):
            self.assertIn((name, other, 0), lines)
        self.assertEqual(sum(times[name] for name in way), beat(works))

    def check_by_ways(self, works):
        """The arrivals by every way that there is."""
        lines = works.lines()
        wanted = times_of(works)
        for way in every_way(lines):
            end = lines[way[-1]][1]
            wanted[end] = max(wanted[end], way_time(times_of(works), lines, way))
        self.assertEqual(arrivals(works), wanted, shown(works))
        self.assertEqual(beat(works), max(wanted.values()))

    def told(self, text):
        works = read(text)
        self.check(works)
        self.check_by_ways(works)
        return (arrivals(works), longest(works), beat(works))

    def test_one_part(self):
        self.assertEqual(self.told("a in 0"), ({"a": 0}, ["a"], 0))
        self.assertEqual(self.told("x plus 7 x/1 x/2"), ({"x": 7}, ["x"], 7))
        self.assertEqual(self.told("x up:1 1000 x/100"), ({"x": 1000}, ["x"], 1000))
        self.assertEqual(self.told("x up:1 0 x/1"), ({"x": 0}, ["x"], 0))

    def test_parts_without_lines_between_them(self):
        self.assertEqual(self.told("a in 0\nb in 0")[2], 0)
        self.assertEqual(self.told("x up:1 3 x/1\ny up:1 5 y/1\nz up:1 4 z/1"), ({"x": 3, "y": 5, "z": 4}, ["y"], 5))

    def test_parts_of_time_0(self):
        self.assertEqual(self.told("a in 0\nx up:1 0 a\ny plus 0 x a\no out 0 y")[2], 0)
        told = self.told("a in 0\nx up:1 0 a\ny up:1 6 x\nz up:1 0 y\no out 0 z")
        self.assertEqual(told[0], {"a": 0, "x": 0, "y": 6, "z": 6, "o": 6})
        self.assertIn("y", told[1])

    def test_times_of_a_way_are_summed(self):
        told = self.told("a in 0\nx up:1 3 a\ny up:1 4 x\nz up:1 5 y\no out 0 z")
        self.assertEqual(told[0], {"a": 0, "x": 3, "y": 7, "z": 12, "o": 12})
        self.assertEqual(told[2], 12)
        self.assertEqual([name for name in told[1] if name in "xyz"], ["x", "y", "z"])

    def test_rows_in_any_order(self):
        told = self.told("o out 0 z\nz up:1 5 y\ny up:1 4 x\nx up:1 3 a\na in 0")
        self.assertEqual(told[0], {"a": 0, "x": 3, "y": 7, "z": 12, "o": 12})

    def test_several_ways_that_take_the_same(self):
        told = self.told("a in 0\nx up:1 3 a\ny up:1 3 a\nj plus 2 x y\no out 0 j")
        self.assertEqual(told[0], {"a": 0, "x": 3, "y": 3, "j": 5, "o": 5})
        told = self.told("a in 0\nx up:1 5 a\nb in 0\ny up:1 2 b\nz up:1 3 y\no out 0 x\nq out 0 z")
        self.assertEqual(told[2], 5)

    def test_the_longer_of_two_ways(self):
        for text in ("a in 0\nx up:1 3 a\ny up:1 9 a\nj plus 2 x y", "a in 0\nx up:1 3 a\ny up:1 9 a\nj plus 2 y x"):
            told = self.told(text)
            self.assertEqual(told[0]["j"], 11)
            self.assertEqual(told[1][-2:], ["y", "j"])

    def test_a_longer_way_of_short_parts(self):
        told = self.told("a in 0\nl up:1 5 a\nx up:1 2 a\ny up:1 2 x\nz up:1 2 y\nj plus 1 l z")
        self.assertEqual(told[0]["j"], 7)
        self.assertEqual(told[1][-4:], ["x", "y", "z", "j"])

    def test_the_longest_way_may_end_ahead_of_an_out(self):
        told = self.told("a in 0\nx up:1 9 a\ny up:1 1 a\no out 0 y\nz up:1 2 x/1")
        self.assertEqual(told[2], 9)
        self.assertEqual(told[1][-1], "x")

    def test_a_line_with_stores_between_the_longest_parts(self):
        for stores in (1, 2, 100):
            told = self.told(f"a in 0\nx up:1 30 a\ny up:1 40 x/{stores}\nz up:1 5 y\no out 0 z")
            self.assertEqual(told[0], {"a": 0, "x": 30, "y": 40, "z": 45, "o": 45})
            self.assertEqual(told[1][:2], ["y", "z"])

    def test_two_lines_between_the_same_two_parts(self):
        wanted = {"plus 4 x x/2": 7, "plus 4 x/2 x": 7, "plus 4 x x": 7, "plus 4 x/1 x/2": 4, "pick 4 x/1 x/2 x": 7}
        for row in wanted:
            self.assertEqual(self.told(f"a in 0\nx up:1 3 a\ny {row}")[0]["y"], wanted[row], row)

    def test_a_way_begins_behind_stores(self):
        told = self.told("x up:1 3 z/1\ny up:1 4 x\nz up:1 5 y")
        self.assertEqual(told, ({"x": 3, "y": 7, "z": 12}, ["x", "y", "z"], 12))
        told = self.told("x up:1 3 z\ny up:1 4 x/1\nz up:1 5 y")
        self.assertEqual(told, ({"y": 4, "z": 9, "x": 12}, ["y", "z", "x"], 12))

    def test_60_parts_in_a_row(self):
        for rows in (ROW, ROW[::-1]):
            works = read("\n".join(rows))
            self.check(works)
            wanted = {f"p{place}": place * (place + 1) // 2 for place in range(1, 60)}
            self.assertEqual(arrivals(works), {"a": 0, **wanted})
            self.assertEqual(beat(works), 59 * 30)
            self.assertEqual(longest(works)[-59:], [f"p{place}" for place in range(1, 60)])

    def test_60_parts_in_a_row_with_a_store_in_it(self):
        rows = list(ROW)
        rows[40] += "/1"
        works = read("\n".join(rows))
        self.check(works)
        self.assertEqual(longest(works), [f"p{place}" for place in range(40, 60)])
        self.assertEqual(beat(works), sum(range(40, 60)))

    def test_60_parts_with_more_ways_than_can_be_walked(self):
        rows = ["p0 in 0"] + [f"p{place} plus 1000 p{place - 1} p{place - 1}" for place in range(1, 60)]
        works = read("\n".join(rows))
        self.check(works)
        self.assertEqual(beat(works), 59000)

    def test_small_works(self):
        for text in SMALL:
            self.told(text)

    def test_drawn_works(self):
        draw = random.Random(21)
        for case in range(300):
            self.told(drawn_text(draw, draw.randrange(1, 9), draw.choice([0, 1, 9]), draw.choice([0, 1, 2])))
        for case in range(60):
            self.check(read(drawn_text(draw, draw.randrange(20, 61), draw.choice([1, 1000]), 1)))

    def test_arguments_by_name(self):
        works = read("a in 0\nx up:1 3 a")
        self.assertEqual((arrivals(works=works), beat(works=works)), ({"a": 0, "x": 3}, 3))
        self.assertEqual(longest(works=works)[-1], "x")


class NothingKept(unittest.TestCase):
    """[1]: the works stays as it was, and what is told is new."""

    def test_the_works_stays_as_it_was(self):
        for text in SMALL:
            works = read(text)
            before = shown(works)
            arrivals(works), longest(works), beat(works)
            self.assertEqual(shown(works), before)

    def test_what_is_told_is_new(self):
        works = read("a in 0\nx up:1 3 a\no out 0 x")
        told, way = arrivals(works), longest(works)
        before, same = dict(told), list(way)
        told.clear()
        way.append("y")
        way[0] = "z"
        self.assertEqual(arrivals(works), before)
        self.assertEqual(longest(works), same)
        self.assertEqual(beat(works), 3)


if __name__ == "__main__":
    unittest.main()
