"""[13] and [14]: lags that make the shortest beat, and the rings that bar a shorter one."""

import random
import time
import unittest

from reckoned import (
    SMALL, Checks, beat_of, drawn_text, fewest_by_beat, inner_names, large_texts, moved_lines, times_of,
)
from storeway.lags import moved, slowed
from storeway.least import bars, shortest
from storeway.runs import run
from storeway.works import read, shown


def made(works, lags):
    return beat_of(times_of(works), moved_lines(works, lags))


def least_split(times, groups):
    """The least that the longest of so many groups takes, where parts in a row are split into them."""
    most = max(times)
    while True:
        used, taken = 1, 0
        for time_taken in times:
            used, taken = (used + 1, time_taken) if taken + time_taken > most else (used, taken + time_taken)
        if used <= groups:
            return most
        most += 1


def row_text(times, stores):
    """Parts in a row between an in and an out, all stores ahead of the out."""
    rows = ["a in 0"] + [f"p{place} up:1 {taken} p{place - 1}" for place, taken in enumerate(times)]
    rows[1] = rows[1].replace("p-1", "a")
    return "\n".join(rows + [f"o out 0 p{len(times) - 1}/{stores}"])


def ring_text(times, stores):
    rows = [f"p{place} up:1 {taken} p{place - 1}" for place, taken in enumerate(times)]
    rows[0] = rows[0].replace("p-1", f"p{len(times) - 1}/{stores}")
    return "\n".join(rows)


class Shortest(Checks, unittest.TestCase):
    def check(self, works, wanted):
        lags = shortest(works)
        self.check_lags(works, lags, wanted)
        self.assertEqual(made(works, lags), wanted, shown(works))

    def test_works_that_lags_do_not_help(self):
        for text, wanted in (
            ("a in 0", 0), ("a in 0\nb in 0", 0), ("r up:1 7 r/1", 7), ("r plus 0 r/1 r/2", 0),
            ("a in 0\no out 0 a", 0), ("a in 0\nx up:1 3 a\ny up:1 4 x\no out 0 y", 7),
            ("x up:1 3 z/1\ny up:1 4 x\nz up:1 5 y", 12),
        ):
            self.check(read(text), wanted)

    def test_a_row_of_parts(self):
        for stores, wanted in ((0, 12), (1, 7), (2, 5), (3, 5), (100, 5)):
            self.check(read(row_text([3, 4, 5], stores)), wanted)

    def test_lags_below_and_above_0(self):
        self.check(read("a in 0\nx up:1 3 a/2\ny up:1 4 x\nz up:1 5 y\no out 0 z"), 5)
        self.check(read("a in 0\nx up:1 3 a/1\ny up:1 4 x\nz up:1 5 y\no out 0 z/1"), 5)

    def test_a_ring(self):
        for stores, wanted in ((1, 12), (2, 7), (3, 5), (4, 5)):
            self.check(read(ring_text([3, 4, 5], stores)), wanted)

    def test_two_ways_between_the_same_parts(self):
        self.check(read("a in 0\nf up:1 1 a\nx up:1 5 f/1\ny up:1 2 f/1\nj plus 1 x y\no out 0 j"), 6)
        self.check(read("a in 0\nf up:1 1 a\nx up:1 5 f/2\ny up:1 2 f/2\nj plus 1 x y\no out 0 j"), 5)
        self.check(read("a in 0\nf up:1 1 a\nx up:1 5 f/2\ny up:1 2 f\nj plus 1 x y\no out 0 j"), 5)
        self.check(read("a in 0\nf up:1 9 a\nj plus 9 f/2 f\no out 0 j"), 18)

    def test_parts_apart_from_one_another(self):
        self.check(read("a in 0\nx up:1 9 a\no out 0 x\nb in 0\ny up:1 5 b\nz up:1 6 y\nq out 0 z/1"), 9)
        self.check(read("x up:1 2 y/1\ny up:1 2 x\nv up:1 3 w\nw up:1 2 v/2"), 4)

    def test_small_works_by_every_lags(self):
        for text in SMALL:
            works = read(text)
            self.check(works, min(fewest_by_beat(works, len(inner_names(works)))))

    def test_drawn_works_by_every_lags(self):
        draw = random.Random(41)
        for case in range(250):
            works = read(drawn_text(draw, draw.randrange(1, 7), draw.choice([1, 4, 9]), draw.choice([1, 2, 3])))
            if len(inner_names(works)) <= 4:
                self.check(works, min(fewest_by_beat(works, len(inner_names(works)))))

    def test_long_rows_and_rings(self):
        draw = random.Random(42)
        for stores in (0, 1, 2, 5, 17, 57, 100):
            self.check(read(row_text([7] * 58, stores)), 7 * -(-58 // (stores + 1)))
            times = [draw.randrange(40) for place in range(58)]
            self.check(read(row_text(times, stores)), least_split(times, stores + 1))
        for stores in (1, 2, 7, 59, 60, 100):
            self.check(read(ring_text([9] * 60, stores)), 9 * -(-60 // stores))

    def test_the_outs_stay_as_they_were(self):
        draw = random.Random(43)
        for text in SMALL:
            works = read(text)
            new = moved(works, shortest(works))
            names = [name for name in works.names() if works.kind(name).word() == "in"]
            rows = {name: [draw.randrange(256) for beat in range(20)] for name in names}
            for name in works.names():
                if works.kind(name).word() == "out":
                    self.assertEqual(run(new, rows, 20)[name], run(works, rows, 20)[name])

    def test_a_slower_works_is_never_worse(self):
        draw = random.Random(44)
        drawn = [drawn_text(draw, draw.randrange(1, 20), 9, 2) for case in range(60)]
        for text in list(SMALL) + drawn:
            works = read(text)
            own = made(works, shortest(works))
            for new in (slowed(works, 1), slowed(works), slowed(works, 3), slowed(works, 20)):
                self.assertLessEqual(made(new, shortest(new)), own)
            self.assertEqual(made(slowed(works, 1), shortest(slowed(works, 1))), own)

    def test_a_slower_ring_is_better(self):
        for times, wanted in ((1, 12), (2, 7), (3, 5), (20, 5)):
            self.check(slowed(read(ring_text([3, 4, 5], 1)), times), wanted)


class Bars(Checks, unittest.TestCase):
    def check(self, works, most, barred):
        ring = bars(works, most)
        if barred:
            self.assertIsNotNone(ring, (shown(works), most))
            self.check_ring(works, most, ring)
        else:
            self.assertIsNone(ring, (shown(works), most))

    def check_all(self, works):
        least = min(fewest_by_beat(works, len(inner_names(works))))
        for most in range(-3, made(works, dict.fromkeys(works.names(), 0)) + 3):
            self.check(works, most, most < least)
        for most in (-10 ** 30, -1000, 10 ** 6, 10 ** 30):
            self.check(works, most, most < least)

    def test_one_part(self):
        self.assertEqual(bars(read("a in 0"), -1), ["a"])
        self.assertIsNone(bars(read("a in 0"), 0))
        self.assertEqual(bars(read("r up:1 7 r/1"), 6), ["r"])
        self.assertIsNone(bars(read("r up:1 7 r/1"), 7))

    def test_the_one_part_that_takes_too_long(self):
        works = read("a in 0\nx up:1 3 a/1\ny up:1 9 x/1\nz up:1 4 y/1\no out 0 z/1")
        for most in range(4, 9):
            self.assertEqual(bars(works, most), ["y"])
        self.assertIsNone(bars(works, 9))

    def test_a_way_from_an_in_to_an_out(self):
        works = read("a in 0\nx up:1 3 a\ny up:1 4 x\no out 0 y\nq out 0 x/1")
        for most in (4, 5, 6):
            self.check(works, most, True)
        self.check(works, 7, False)

    def test_a_ring_of_lines(self):
        works = read("x up:1 3 z/1\ny up:1 4 x\nz up:1 5 y")
        for most in range(5, 12):
            self.check(works, most, True)
        self.check(works, 12, False)

    def test_a_ring_closed_over_an_in_and_an_out(self):
        works = read(row_text([3, 4, 5], 1))
        for most in (5, 6):
            self.check(works, most, True)
        self.check(works, 7, False)

    def test_an_in_and_an_out_that_no_line_joins(self):
        works = read("a in 0\nx up:1 5 a\nr plus 5 x r/1\nb in 0\ns up:1 5 b/1\nq out 0 s/9")
        for most in range(-1, 12):
            self.check(works, most, most < 5)

    def test_small_works(self):
        for text in SMALL:
            self.check_all(read(text))

    def test_drawn_works(self):
        draw = random.Random(51)
        for case in range(200):
            works = read(drawn_text(draw, draw.randrange(1, 7), draw.choice([1, 4, 9]), draw.choice([1, 2, 3])))
            if len(inner_names(works)) <= 4:
                self.check_all(works)

    def test_drawn_works_of_many_parts(self):
        """A ring shows by itself that none make a shorter beat, and lags show that they make theirs."""
        draw = random.Random(52)
        for case in range(60):
            works = read(drawn_text(draw, draw.randrange(8, 40), draw.choice([1, 9, 30]), draw.choice([1, 2, 5])))
            least = made(works, shortest(works))
            for most in (least - 2, least - 1, least, least + 1):
                self.check(works, most, most < least)

    def test_moved_works(self):
        works = read("a in 0\nx up:1 3 a/90\ny up:1 4 x\nz up:1 5 y\no out 0 z/90")
        new = moved(works, {"a": 0, "x": 90, "y": 90, "z": 90, "o": 0})
        for most in range(-1, 14):
            self.check(new, most, most < 5)

    def test_arguments_by_name(self):
        works = read("r up:1 7 r/1")
        self.assertEqual(bars(works=works, most=6), ["r"])
        self.assertEqual(sorted(shortest(works=works)), ["r"])


class Large(Checks, unittest.TestCase):
    def test_60_parts_answer_within_seconds(self):
        for text in large_texts():
            works = read(text)
            begun = time.perf_counter()
            lags = shortest(works)
            least = made(works, lags)
            rings = [(most, bars(works, most)) for most in (least - 1, least, least + 1)]
            self.assertLess(time.perf_counter() - begun, 20)
            self.check_lags(works, lags, least)
            self.check_ring(works, least - 1, rings[0][1])
            self.assertEqual([ring for most, ring in rings[1:]], [None, None])


class NothingKept(unittest.TestCase):
    """[1]: the works stays as it was, and what is told is new."""

    def test_the_works_stays_as_it_was(self):
        for text in SMALL:
            works = read(text)
            before = shown(works)
            shortest(works)
            for most in range(-1, 14):
                bars(works, most)
            self.assertEqual(shown(works), before)

    def test_what_is_told_is_new(self):
        works = read("a in 0\nx plus 3 a z/2\ny up:1 4 x\nz up:1 5 y\no out 0 z")
        lags = shortest(works)
        same = dict(lags)
        lags.clear()
        self.assertEqual(shortest(works), same)
        for most in (-1, 4, 6, 11):
            ring = bars(works, most)
            same = [step if isinstance(step, str) else list(step) for step in ring]
            for step in ring:
                if isinstance(step, list):
                    step.append(99)
            ring.append("x")
            self.assertEqual(bars(works, most), same)


if __name__ == "__main__":
    unittest.main()
