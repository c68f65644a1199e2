"""[11], [12] and [17]: works moved by lags, their stores, and slower works."""

import random
import unittest

from reckoned import SMALL, drawn_lags, drawn_text, moved_lines, total
from storeway.errors import BadLag, BadRow, NoPart, Ring, TooMany, WorksError
from storeway.lags import moved, slowed, stores
from storeway.runs import run
from storeway.works import Works, read, shown

ROW = "a in 0\nx up:1 3 a/1\ny plus 4 x x/2\no out 0 y/2"


def told(works):
    """All that a works tells, but for its lines."""
    return [(name, works.kind(name).word(), works.kind(name).__class__, works.time(name)) for name in works.names()]


def drawn_rows(draw, works, beats, width):
    ins = [name for name in works.names() if works.kind(name).word() == "in"]
    return {name: [draw.randrange(2 ** width) for beat in range(beats)] for name in ins}


class Moving(unittest.TestCase):
    def check(self, works, lags):
        before, parts, handed = works.lines(), told(works), dict(lags)
        new = moved(works, lags)
        self.assertIsInstance(new, Works)
        self.assertEqual(new.lines(), moved_lines(works, lags))
        self.assertEqual(told(new), parts)
        self.assertEqual((works.lines(), told(works), lags), (before, parts, handed))
        return new

    def test_stores_go_from_one_side_of_a_part_to_the_other(self):
        works = read(ROW)
        for lag, wanted in ((-1, [0, 1, 3, 2]), (0, [1, 0, 2, 2])):
            new = self.check(works, {"a": 0, "x": lag, "y": 0, "o": 0})
            self.assertEqual([line[2] for line in new.lines()], wanted)
        for lag, wanted in ((0, [1, 0, 2, 2]), (1, [1, 1, 3, 1]), (2, [1, 2, 4, 0])):
            new = self.check(works, {"a": 0, "x": 0, "y": lag, "o": 0})
            self.assertEqual([line[2] for line in new.lines()], wanted)

    def test_lags_above_and_below_0_at_once(self):
        new = self.check(read(ROW), {"a": 0, "x": -1, "y": 2, "o": 0})
        self.assertEqual([line[2] for line in new.lines()], [0, 3, 5, 0])

    def test_lags_of_0_leave_all_as_it_is(self):
        for text in SMALL:
            works = read(text)
            new = self.check(works, dict.fromkeys(works.names(), 0))
            self.assertEqual(shown(new), shown(works))
            self.assertIsNot(new, works)

    def test_lags_in_any_order_of_names(self):
        new = self.check(read(ROW), {"o": 0, "y": 2, "x": -1, "a": 0})
        self.assertEqual(new.names(), ["a", "x", "y", "o"])

    def test_a_part_that_feeds_itself_keeps_its_stores(self):
        new = self.check(read("a in 0\ns plus 4 a s/1\no out 0 s/2"), {"a": 0, "s": 2, "o": 0})
        self.assertEqual(shown(new), "a in 0\ns plus 4 a/2 s/1\no out 0 s")

    def test_a_part_without_in_or_out(self):
        new = self.check(read("r up:1 7 r/1"), {"r": -50})
        self.assertEqual(shown(new), "r up:1 7 r/1")
        new = self.check(read("x up:1 3 z/1\ny up:1 4 x\nz up:1 5 y"), {"x": 7, "y": 8, "z": 8})
        self.assertEqual(shown(new), "x up:1 3 z\ny up:1 4 x/1\nz up:1 5 y")

    def test_more_than_100_stores_on_a_line(self):
        new = self.check(read("a in 0\nx up:1 3 a/100\no out 0 x/100"), {"a": 0, "x": 100, "o": 0})
        self.assertEqual(new.lines(), [("a", "x", 200), ("x", "o", 0)])
        self.assertEqual(shown(new), "a in 0\nx up:1 3 a/200\no out 0 x")
        back = self.check(new, {"a": 0, "x": -200, "o": 0})
        self.assertEqual(back.lines(), [("a", "x", 0), ("x", "o", 200)])
        far = self.check(read("x up:1 1 y/100\ny plus 1 x/100 w/9\nw up:1 1 w/1"), {"x": 0, "y": 100, "w": -1000})
        self.assertEqual(far.lines(), [("y", "x", 0), ("x", "y", 200), ("w", "y", 1109), ("w", "w", 1)])

    def test_drawn_lags(self):
        draw = random.Random(31)
        for case in range(200):
            works = read(drawn_text(draw, draw.randrange(1, 20), 9, 3))
            self.check(works, drawn_lags(draw, works, 40))

    def test_moved_on_is_moved_by_the_sum(self):
        draw = random.Random(32)
        for case in range(100):
            works = read(drawn_text(draw, draw.randrange(1, 12), 9, 3))
            first = drawn_lags(draw, works, 30)
            new = self.check(works, first)
            second = drawn_lags(draw, new, 30)
            both = {name: first[name] + second[name] for name in first}
            self.assertEqual(self.check(new, second).lines(), moved_lines(works, both))
            back = self.check(new, {name: -first[name] for name in first})
            self.assertEqual(shown(back), shown(works))

    def test_arguments_by_name(self):
        works = read(ROW)
        self.assertEqual(shown(moved(works=works, lags=dict.fromkeys(works.names(), 0))), ROW)
        self.assertEqual((stores(works=works), stores(slowed(works=works, times=3))), (5, 15))


class BadLags(unittest.TestCase):
    def refused(self, works, lags):
        before, handed = shown(works), dict(lags)
        with self.assertRaises(WorksError) as caught:
            moved(works, lags)
        self.assertIs(caught.exception.__class__, BadLag)
        for other in (BadRow, NoPart, TooMany, Ring):
            self.assertNotIsInstance(caught.exception, other)
        self.assertEqual((shown(works), lags), (before, handed))

    def test_a_line_left_fewer_than_0_stores(self):
        works = read(ROW)
        good = {"a": 0, "x": 0, "y": 0, "o": 0}
        for name, least, most in (("x", -1, 0), ("y", 0, 2)):
            for lag in range(least, most + 1):
                moved(works, {**good, name: lag})
            for lag in (least - 1, least - 2, most + 1, most + 2, -1000, 1000):
                self.refused(works, {**good, name: lag})

    def test_one_line_of_many_by_one(self):
        works = read("a in 0\nx pick 2 a/3 a/2 a/3\no out 0 x/5\nq out 0 x/4")
        for lag, good in ((-3, False), (-2, True), (4, True), (5, False)):
            lags = {"a": 0, "x": lag, "o": 0, "q": 0}
            if good:
                self.assertEqual(moved(works, lags).lines(), moved_lines(works, lags))
            else:
                self.refused(works, lags)

    def test_the_last_line_below_0(self):
        self.refused(read("a in 0\nx up:1 1 a/9\no out 0 x/9\nq out 0 x"), {"a": 0, "x": 1, "o": 0, "q": 0})
        self.refused(read("a in 0\nx plus 1 a/9 a\no out 0 x/9"), {"a": 0, "x": -1, "o": 0})

    def test_a_part_left_out(self):
        works = read(ROW)
        for name in works.names():
            self.refused(works, {other: 0 for other in works.names() if other != name})
        self.refused(works, {})
        self.refused(read("a in 0"), {})

    def test_a_name_put_in(self):
        works = read(ROW)
        for name in ("b", "", "A", "x ", "aa", "ninesigns"):
            self.refused(works, {"a": 0, "x": 0, "y": 0, "o": 0, name: 0})
            self.refused(works, {name: 1, "a": 0, "x": 0, "y": 0, "o": 0})

    def test_a_name_in_the_place_of_another(self):
        self.refused(read(ROW), {"a": 0, "x": 0, "z": 0, "o": 0})
        self.refused(read("a in 0"), {"b": 0})

    def test_an_in_or_out_with_a_lag(self):
        works = read("a in 0\nb in 0\nx plus 3 a/5 b/5\no out 0 x/5\nq out 0 x/5")
        for name in "aboq":
            for lag in (1, -1, 5):
                self.refused(works, {**dict.fromkeys("abxoq", 0), name: lag})
        for lag in (1, -1):
            self.refused(works, dict.fromkeys("abxoq", lag))
            self.refused(read("a in 0"), {"a": lag})
            self.refused(read("a in 0\no out 0 a/3"), {"a": lag, "o": lag})

    def test_two_faults_at_once(self):
        works = read(ROW)
        self.refused(works, {"a": 0, "x": -9, "y": 0, "o": 1})
        self.refused(works, {"a": 1, "x": 0, "y": 0})
        self.refused(works, {"a": 0, "x": -9, "y": 0})
        self.refused(works, {"a": 0, "x": -9, "y": 0, "z": 0})
        self.refused(works, {"a": 1, "x": -9, "y": 9, "z": 3, "o": 0, "q": 0})
        self.refused(works, {"o": 2, "q": 2})


class Counting(unittest.TestCase):
    def test_works_without_lines(self):
        self.assertEqual(stores(read("a in 0")), 0)
        self.assertEqual(stores(read("a in 0\nb in 0")), 0)

    def test_works_without_stores(self):
        self.assertEqual(stores(read("a in 0\nx plus 3 a a\no out 0 x")), 0)

    def test_works_with_stores(self):
        self.assertEqual(stores(read("a in 0\no out 0 a/7")), 7)
        self.assertEqual(stores(read(ROW)), 5)
        self.assertEqual(stores(read("r pick 1 r/1 r/100 r/10")), 111)

    def test_drawn_works_moved(self):
        draw = random.Random(33)
        for case in range(50):
            works = read(drawn_text(draw, draw.randrange(1, 30), 9, 100))
            self.assertEqual(stores(works), total(works.lines()))
            lags = drawn_lags(draw, works, 60)
            self.assertEqual(stores(moved(works, lags)), total(moved_lines(works, lags)))
            self.assertIs(stores(works).__class__, int)


class SameAtOuts(unittest.TestCase):
    """[12]: moved, moved again and moved back, a works gives out the same at each out from the first beat on."""

    def check(self, draw, works):
        outs = [name for name in works.names() if works.kind(name).word() == "out"]
        first = drawn_lags(draw, works, 30)
        new = moved(works, first)
        again = moved(new, drawn_lags(draw, new, 30))
        back = moved(new, {name: -first[name] for name in first})
        for beats, width in ((0, 8), (1, 8), (25, 1), (25, 8), (25, 64)):
            rows = drawn_rows(draw, works, beats, width)
            wanted = run(works, rows, beats, width)
            for other in (new, again, back):
                given = run(other, rows, beats, width)
                for name in outs:
                    self.assertEqual(given[name], wanted[name], (shown(works), shown(other)))

    def test_a_sum_in_a_ring(self):
        works = read("a in 0\nx plus 3 a/1 z/2\ny up:1 4 x\nz odd 5 y x\no out 0 z/1")
        new = moved(works, {"a": 0, "x": -1, "y": 0, "z": 1, "o": 0})
        self.assertNotEqual(new.lines(), works.lines())
        rows = {"a": [1, 2, 3, 4, 255, 254, 7, 9]}
        self.assertEqual(run(new, rows, 8)["o"], run(works, rows, 8)["o"])
        self.assertEqual(run(new, {"a": []}, 0)["o"], [])

    def test_small_works(self):
        draw = random.Random(34)
        for text in SMALL:
            for case in range(4):
                self.check(draw, read(text))

    def test_drawn_works(self):
        draw = random.Random(35)
        for case in range(80):
            self.check(draw, read(drawn_text(draw, draw.randrange(2, 14), 9, draw.choice([1, 2, 4]))))


class Slowing(unittest.TestCase):
    """[17]: so many times the stores, for rows woven into one another."""

    def check(self, works, new, times):
        self.assertIsInstance(new, Works)
        self.assertIsNot(new, works)
        self.assertEqual(told(new), told(works))
        self.assertEqual(new.lines(), [(start, end, held * times) for start, end, held in works.lines()])

    def test_each_line_has_so_many_times_the_stores(self):
        for text in SMALL:
            works = read(text)
            for times in range(1, 21):
                self.check(works, slowed(works, times), times)
            self.assertEqual(shown(works), shown(read(text)))

    def test_2_times_where_it_is_left_out(self):
        for text in SMALL:
            works = read(text)
            self.check(works, slowed(works), 2)

    def test_more_than_100_stores_on_a_line(self):
        works = read("a in 0\nx up:1 3 a/100\no out 0 x/6")
        self.assertEqual(shown(slowed(works, 20)), "a in 0\nx up:1 3 a/2000\no out 0 x/120")
        self.assertEqual(slowed(slowed(works, 20), 3).lines(), [("a", "x", 6000), ("x", "o", 360)])

    def check_woven(self, draw, works, times, new):
        for beats, width in ((0, 8), (1, 8), (9, 1), (9, 8), (9, 64)):
            apart = [drawn_rows(draw, works, beats, width) for row in range(times)]
            woven = {name: [apart[place % times][name][place // times] for place in range(beats * times)]
                     for name in apart[0]}
            given = [run(works, rows, beats, width) for rows in apart]
            together = run(new, woven, beats * times, width)
            for name in works.names():
                wanted = [given[place % times][name][place // times] for place in range(beats * times)]
                self.assertEqual(together[name], wanted, (shown(works), name))

    def test_rows_woven_by_hand(self):
        works = read("a in 0\ns plus 4 a s/1\no out 0 s/1")
        given = run(slowed(works), {"a": [1, 10, 2, 20, 3, 30]}, 6)
        self.assertEqual(given["s"], [1, 10, 3, 30, 6, 60])
        self.assertEqual(given["o"], [0, 0, 1, 10, 3, 30])

    def test_rows_woven(self):
        draw = random.Random(36)
        for text in SMALL:
            works = read(text)
            for times in (1, 2, 3):
                self.check_woven(draw, works, times, slowed(works, times))
            self.check_woven(draw, works, 2, slowed(works))
        for case in range(40):
            works = read(drawn_text(draw, draw.randrange(2, 12), 9, 3))
            self.check_woven(draw, works, 2, slowed(works))

    def test_20_rows_woven(self):
        draw = random.Random(37)
        for case in range(10):
            works = read(drawn_text(draw, draw.randrange(2, 12), 9, 3))
            self.check_woven(draw, works, 20, slowed(works, 20))


class NothingKept(unittest.TestCase):
    """[1]: what is told stands apart from what was handed in."""

    def test_lags_changed_later(self):
        works = read(ROW)
        lags = {"a": 0, "x": -1, "y": 1, "o": 0}
        new = moved(works, lags)
        before = shown(new)
        lags["x"] = 5
        lags.clear()
        self.assertEqual(shown(new), before)
        self.assertEqual(shown(works), ROW)

    def test_lists_changed_later(self):
        works = read(ROW)
        for new in (moved(works, dict.fromkeys(works.names(), 0)), slowed(works, 1), slowed(works)):
            before = shown(new)
            new.lines().clear()
            new.names().append("q")
            works.lines().clear()
            works.names().clear()
            self.assertEqual(shown(new), before)
            self.assertEqual(shown(works), ROW)


if __name__ == "__main__":
    unittest.main()
