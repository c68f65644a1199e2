"""[15] and [16]: the fewest stores for a beat, and the amounts of ways that show that no fewer will do."""

import random
import time
import unittest

from reckoned import (
    SMALL, Checks, beat_of, drawn_text, fewest_by_beat, inner_names, large_texts, moved_lines, times_of, total,
)
from storeway.fewest import fewest, floor
from storeway.lags import moved, stores
from storeway.least import shortest
from storeway.works import read, shown


class Fewest(Checks, unittest.TestCase):
    def check(self, works, most):
        """Both answers against one another and the lines; tells how many stores are left, or None."""
        lags = fewest(works, most)
        pairs = floor(works, most)
        if lags is None:
            self.assertIsNone(pairs, (shown(works), most))
            return None
        self.check_lags(works, lags, most)
        left = total(moved_lines(works, lags))
        self.check_floor(works, most, pairs, left)
        return left

    def check_all(self, works, bound):
        """For each beat: None exactly where no lags make it, else no more stores than by any lags that are tried."""
        found = fewest_by_beat(works, max(bound, len(inner_names(works))))
        own = beat_of(times_of(works), works.lines())
        for most in list(range(-3, own + 3)) + [-10 ** 30, -1000, 10 ** 6, 10 ** 30]:
            left = self.check(works, most)
            tried = [found[made] for made in found if made <= most]
            if tried == []:
                self.assertIsNone(left, (shown(works), most))
            else:
                self.assertIsNotNone(left, (shown(works), most))
                self.assertLessEqual(left, min(tried), (shown(works), most))

    def test_works_without_lines(self):
        for text in ("a in 0", "a in 0\nb in 0"):
            works = read(text)
            for most in (0, 1, 1000):
                self.assertEqual(fewest(works, most), dict.fromkeys(works.names(), 0))
                self.assertEqual(floor(works, most), [])
            self.assertIsNone(fewest(works, -1))
            self.assertIsNone(floor(works, -1))

    def test_a_row_keeps_its_stores(self):
        works = read("a in 0\nx up:1 3 a\ny up:1 4 x\nz up:1 5 y\no out 0 z/2")
        for most, left in ((-1, None), (4, None), (5, 2), (6, 2), (7, 2), (12, 2), (13, 2)):
            self.assertEqual(self.check(works, most), left)

    def test_stores_are_saved_ahead_of_many_lines(self):
        works = read("a in 0\nx up:1 3 a\no out 0 x/1\np out 0 x/1\nq out 0 x/2")
        for most in (3, 4, 100):
            self.assertEqual(self.check(works, most), 2)
        works = read("a in 0\nx up:1 3 a\ny up:1 3 x\no out 0 y/1\np out 0 y/1\nq out 0 y/2")
        self.assertEqual([self.check(works, most) for most in (2, 3, 5, 6, 7)], [None, 2, 2, 2, 2])

    def test_stores_are_saved_behind_many_lines(self):
        works = read("a in 0\nb in 0\nc in 0\nx pick 2 a/3 b/2 c/4\no out 0 x")
        self.assertEqual(self.check(works, 2), 5)
        self.assertIsNone(self.check(works, 1))

    def test_a_shorter_beat_asks_for_more_stores(self):
        works = read("a in 0\nf up:1 4 a/2\nx up:1 4 f\ny up:1 4 f\nz up:1 4 f\n"
                     "o out 0 x\np out 0 y\nq out 0 z")
        self.assertEqual([self.check(works, most) for most in (3, 4, 7, 8, 9)], [None, 4, 4, 2, 2])

    def test_a_works_with_more_stores_than_it_needs(self):
        works = read("x up:1 3 z\ny up:1 4 x/9\nz plus 5 y/9 x/9")
        self.assertEqual([self.check(works, most) for most in (4, 5, 7, 8, 12)], [None, 19, 19, 18, 18])
        works = read("a in 0\nx up:1 2 a/5\nr plus 3 x/7 r/2\ns up:1 1 r/4")
        self.assertEqual([self.check(works, most) for most in (2, 3, 4, 5, 6)], [None, 4, 3, 3, 2])

    def test_small_works_by_every_lags(self):
        for text in SMALL:
            works = read(text)
            self.check_all(works, 4)

    def test_drawn_works_by_every_lags(self):
        draw = random.Random(61)
        for case in range(150):
            works = read(drawn_text(draw, draw.randrange(1, 7), draw.choice([1, 4, 9]), draw.choice([1, 2, 3])))
            if len(inner_names(works)) <= 3:
                self.check_all(works, 5)

    def test_drawn_works_of_many_parts(self):
        draw = random.Random(62)
        for case in range(80):
            works = read(drawn_text(draw, draw.randrange(6, 40), draw.choice([1, 9, 30]), draw.choice([1, 2, 5])))
            own = beat_of(times_of(works), works.lines())
            least = beat_of(times_of(works), moved_lines(works, shortest(works)))
            self.assertIsNone(self.check(works, least - 1))
            before = None
            for most in (least, (least + own) // 2, own, own + 1):
                left = self.check(works, most)
                self.assertIsNotNone(left)
                self.assertTrue(before is None or left <= before)
                before = left
            self.assertLessEqual(before, total(works.lines()))

    def test_moved_works(self):
        works = read("a in 0\nx up:1 3 a/90\ny up:1 4 x\nz up:1 5 y\no out 0 z/90\nq out 0 z/91")
        new = moved(works, {"a": 0, "x": 90, "y": 90, "z": 90, "o": 0, "q": 0})
        for most in range(-1, 14):
            self.assertEqual(self.check(new, most), None if most < 5 else 181)

    def test_the_stores_that_are_counted(self):
        for text in SMALL:
            works = read(text)
            lags = fewest(works, 1000)
            self.assertEqual(stores(moved(works, lags)), total(moved_lines(works, lags)))

    def test_arguments_by_name(self):
        works = read("r up:1 7 r/1")
        self.assertIsNone(fewest(works=works, most=6))
        self.assertIsNone(floor(works=works, most=6))
        self.assertEqual(floor(works=works, most=7), [])


class Large(Checks, unittest.TestCase):
    def test_60_parts_answer_within_seconds(self):
        for text in large_texts():
            works = read(text)
            own = beat_of(times_of(works), works.lines())
            least = beat_of(times_of(works), moved_lines(works, shortest(works)))
            for most in (least, (least + own) // 2, own):
                begun = time.perf_counter()
                lags, pairs = fewest(works, most), floor(works, most)
                self.assertLess(time.perf_counter() - begun, 20)
                self.check_lags(works, lags, most)
                self.check_floor(works, most, pairs, total(moved_lines(works, lags)))
            self.assertIsNone(fewest(works, least - 1))
            self.assertIsNone(floor(works, least - 1))


class NothingKept(unittest.TestCase):
    """[1]: the works stays as it was, and what is told is new."""

    def test_the_works_stays_as_it_was(self):
        for text in SMALL:
            works = read(text)
            before = shown(works)
            for most in range(-1, 14):
                fewest(works, most), floor(works, most)
            self.assertEqual(shown(works), before)

    def test_what_is_told_is_new(self):
        works = read("a in 0\nx up:1 3 a\no out 0 x/1\np out 0 x/1\nq out 0 x/2")
        lags, pairs = fewest(works, 5), floor(works, 5)
        self.assertNotEqual(pairs, [])
        same, kept = dict(lags), [(list(way), amount) for way, amount in pairs]
        lags.clear()
        for way, amount in pairs:
            way.append(99)
        pairs.clear()
        self.assertEqual((fewest(works, 5), floor(works, 5)), (same, kept))


if __name__ == "__main__":
    unittest.main()
