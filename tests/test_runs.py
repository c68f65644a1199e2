"""[7] and [8]: a works run beat by beat."""

import copy
import random
import unittest

from reckoned import drawn_text
from storeway.runs import run
from storeway.works import read, shown

MIXED = (
    "a in 0\n"
    "b in 0\n"
    "c and 1 a b/1\n"
    "d or 2 c a\n"
    "e odd 3 d b/2\n"
    "f plus 4 e f/1\n"
    "g pick 5 c f d/3\n"
    "h up:2 6 g/1\n"
    "i down:1 7 h\n"
    "o out 0 i\n"
    "q out 0 f/2"
)


def made(word, numbers, width):
    """What a kind makes, written without the program."""
    modulus = 2 ** width
    name, colon, count = word.partition(":")
    if name == "out":
        return numbers[0]
    if name == "and":
        return numbers[0] & numbers[1]
    if name == "or":
        return numbers[0] | numbers[1]
    if name == "odd":
        return numbers[0] ^ numbers[1]
    if name == "plus":
        return (numbers[0] + numbers[1]) % modulus
    if name == "pick":
        return numbers[2] if numbers[0] == 0 else numbers[1]
    if name == "up":
        return numbers[0] * 2 ** int(count) % modulus
    return numbers[0] // 2 ** int(count)


def expected(text, rows, beats, width):
    """The run by the words of [7]: each number asked for backwards from its part and beat."""
    parts = {}
    for row in text.split("\n"):
        words = row.split()
        parts[words[0]] = (words[1], [(word + "/0").split("/")[:2] for word in words[3:]])
    known = {}

    def given(name, beat):
        if beat < 0:
            return 0
        if (name, beat) not in known:
            word, lines = parts[name]
            if word == "in":
                known[name, beat] = rows[name][beat]
            else:
                numbers = [given(start, beat - int(stores)) for start, stores in lines]
                known[name, beat] = made(word, numbers, width)
        return known[name, beat]

    return {name: [given(name, beat) for beat in range(beats)] for name in parts}


class Running(unittest.TestCase):
    def test_no_beats(self):
        told = run(read("a in 0\nx up:1 1 a/1\no out 0 x"), {"a": []}, 0, 8)
        self.assertEqual(told, {"a": [], "x": [], "o": []})

    def test_one_beat(self):
        told = run(read("a in 0\nx up:1 1 a\ny up:1 1 a/1\no out 0 x"), {"a": [5]}, 1, 8)
        self.assertEqual(told, {"a": [5], "x": [10], "y": [0], "o": [10]})

    def test_every_part_is_told(self):
        works = read(MIXED)
        told = run(works, {"a": [1, 2], "b": [3, 4]}, 2, 8)
        self.assertIs(told.__class__, dict)
        self.assertEqual(sorted(told), sorted(works.names()))
        for name in works.names():
            self.assertIs(told[name].__class__, list)
            self.assertEqual(len(told[name]), 2)

    def test_lines_of_0_1_and_many_stores(self):
        row = [7, 8, 9, 10, 11, 12]
        for stores in (0, 1, 2, 5, 6, 7, 100):
            told = run(read(f"a in 0\no out 0 a/{stores}"), {"a": row}, 6, 8)
            self.assertEqual(told["o"], ([0] * stores + row)[:6], stores)
            self.assertEqual(told["a"], row)

    def test_100_stores_give_out_after_100_beats(self):
        row = [(3 * beat + 1) % 256 for beat in range(105)]
        told = run(read("a in 0\no out 0 a/100"), {"a": row}, 105)
        self.assertEqual(told["o"], [0] * 100 + row[:5])

    def test_a_sum_in_a_ring(self):
        told = run(read("a in 0\ns plus 1 a s/1\no out 0 s"), {"a": [1, 2, 3, 250, 5]}, 5, 8)
        self.assertEqual(told["s"], [1, 3, 6, 0, 5])
        self.assertEqual(told["o"], told["s"])

    def test_rings_of_several_stores(self):
        told = run(read("a in 0\ns plus 1 a s/2"), {"a": [1, 10, 2, 20, 3, 30]}, 6, 8)
        self.assertEqual(told["s"], [1, 10, 3, 30, 6, 60])

    def test_a_ring_of_several_parts(self):
        told = run(read("x plus 0 a y/1\ny up:1 0 x\na in 0"), {"a": [1, 0, 0, 0, 1]}, 5, 8)
        self.assertEqual(told["x"], [1, 2, 4, 8, 17])
        self.assertEqual(told["y"], [2, 4, 8, 16, 34])

    def test_a_ring_without_in_stays_at_0(self):
        told = run(read("x plus 0 x/1 y/3\ny or 0 x x/2"), {}, 4, 8)
        self.assertEqual(told, {"x": [0] * 4, "y": [0] * 4})

    def test_rows_in_any_order(self):
        told = run(read("o out 0 z\nz up:1 0 y\ny up:1 0 x\nx up:1 0 a\na in 0"), {"a": [1, 2]}, 2, 8)
        self.assertEqual(told["o"], [8, 16])

    def test_each_kind(self):
        rows = {"a": [0, 6, 255, 0], "b": [9, 12, 1, 255], "c": [7, 0, 3, 200]}
        wanted = {
            "and 0 a b": [0, 4, 1, 0],
            "or 0 a b": [9, 14, 255, 255],
            "odd 0 a b": [9, 10, 254, 255],
            "plus 0 a b": [9, 18, 0, 255],
            "pick 0 a b c": [7, 12, 1, 200],
            "up:3 0 b": [72, 96, 8, 248],
            "down:2 0 b": [2, 3, 0, 63],
            "out 0 c": [7, 0, 3, 200],
        }
        for row in wanted:
            told = run(read("a in 0\nb in 0\nc in 0\nx " + row), rows, 4, 8)
            self.assertEqual(told["x"], wanted[row], row)
            self.assertEqual({name: told[name] for name in "abc"}, rows)

    def test_width_is_8_where_left_out(self):
        works = read("a in 0\ns plus 0 a a\nu up:1 0 a")
        told = run(works, {"a": [200, 127, 128]}, 3)
        self.assertEqual(told["s"], [144, 254, 0])
        self.assertEqual(told, run(works, {"a": [200, 127, 128]}, 3, 8))

    def test_widths_handed_in(self):
        works = read("a in 0\ns plus 0 a a\nu up:1 0 a\nv up:63 0 a")
        for width in range(1, 65):
            top = 2 ** width - 1
            told = run(works, {"a": [0, 1, top]}, 3, width)
            doubled = [0, 2 % (top + 1), 2 * top % (top + 1)]
            self.assertEqual(told["s"], doubled)
            self.assertEqual(told["u"], doubled)
            self.assertEqual(told["v"], [0] + [2 ** 63 if width == 64 else 0] * 2)

    def test_arguments_by_name(self):
        told = run(works=read("a in 0\nu up:4 0 a"), rows={"a": [1]}, beats=1, width=4)
        self.assertEqual(told["u"], [0])

    def test_every_kind_together(self):
        draw = random.Random(11)
        for width in (1, 3, 8, 64):
            rows = {name: [draw.randrange(2 ** width) for beat in range(30)] for name in "ab"}
            self.assertEqual(run(read(MIXED), rows, 30, width), expected(MIXED, rows, 30, width))

    def test_drawn_works(self):
        draw = random.Random(5)
        for case in range(300):
            text = drawn_text(draw, draw.randrange(1, 12), 0, 3)
            width = draw.choice([1, 2, 8, 64])
            beats = draw.randrange(0, 14)
            works = read(text)
            ins = [name for name in works.names() if works.kind(name).word() == "in"]
            rows = {name: [draw.randrange(2 ** width) for beat in range(beats)] for name in ins}
            self.assertEqual(run(works, rows, beats, width), expected(text, rows, beats, width), text)

    def test_the_longest_chain(self):
        text = "\n".join([f"p{place} up:1 0 p{place + 1}" for place in range(59)] + ["p59 in 0"])
        self.assertEqual(run(read(text), {"p59": [1, 3]}, 2, 64)["p0"], [2 ** 59, 3 * 2 ** 59])


class NothingKept(unittest.TestCase):
    """[1]: what is handed in stays as it was, and what is told is new."""

    def test_the_rows_handed_in_stay_as_they_were(self):
        rows = {"a": [1, 2, 3], "b": [4, 5, 6]}
        before = copy.deepcopy(rows)
        run(read(MIXED), rows, 3)
        self.assertEqual(rows, before)
        self.assertEqual(list(rows), list(before))

    def test_what_is_told_stays_where_the_rows_are_changed(self):
        rows = {"a": [1, 2, 3], "b": [4, 5, 6]}
        told = run(read(MIXED), rows, 3)
        before = copy.deepcopy(told)
        rows["a"].append(9)
        rows["a"][0] = 77
        rows["b"].clear()
        self.assertEqual(told, before)

    def test_the_rows_stay_where_what_is_told_is_changed(self):
        rows = {"a": [1, 2, 3], "b": [4, 5, 6]}
        told = run(read(MIXED), rows, 3)
        for name in told:
            told[name].append(99)
            told[name][0] = 98
        self.assertEqual(rows, {"a": [1, 2, 3], "b": [4, 5, 6]})

    def test_no_list_is_told_twice(self):
        told = run(read("a in 0\nb up:1 0 a\no out 0 a\nq out 0 a"), {"a": [1, 2]}, 2)
        lists = list(told.values())
        for place, one in enumerate(lists):
            for other in lists[place + 1:]:
                self.assertIsNot(one, other)

    def test_one_list_for_two_rows(self):
        row = [1, 2, 3]
        told = run(read("a in 0\nb in 0\ns plus 0 a b"), {"a": row, "b": row}, 3)
        self.assertEqual(told, {"a": [1, 2, 3], "b": [1, 2, 3], "s": [2, 4, 6]})
        self.assertIsNot(told["a"], told["b"])

    def test_a_run_begins_with_empty_stores_each_time(self):
        works = read("a in 0\ns plus 1 a s/1\no out 0 s/2")
        first = run(works, {"a": [1, 2, 3, 4]}, 4)
        self.assertEqual(first["o"], [0, 0, 1, 3])
        self.assertEqual(run(works, {"a": [1, 2, 3, 4]}, 4), first)
        self.assertIsNot(run(works, {"a": [1, 2, 3, 4]}, 4), first)

    def test_the_works_stays_as_it_was(self):
        works = read(MIXED)
        run(works, {"a": [1, 2], "b": [3, 4]}, 2)
        self.assertEqual(shown(works), MIXED)


if __name__ == "__main__":
    unittest.main()
