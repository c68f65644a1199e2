"""[2]: the kinds, their words, the lines they ask for, and what they make."""

import unittest

from storeway.kinds import Both, Down, Either, Kind, Odd, Pick, Plus, Sink, Source, Up, kind_by

PLAIN = (
    ("in", Source, 0),
    ("out", Sink, 1),
    ("and", Both, 2),
    ("or", Either, 2),
    ("odd", Odd, 2),
    ("plus", Plus, 2),
    ("pick", Pick, 3),
)
SHIFTING = (("up", Up), ("down", Down))
CLASSES = (Source, Sink, Both, Either, Odd, Plus, Pick, Up, Down)
WIDTHS = (1, 8, 64)


def bits(number, width):
    """The bits of a number, the lowest first."""
    return [number // 2 ** place % 2 for place in range(width)]


def number_of(lowest_first):
    return sum(bit * 2 ** place for place, bit in enumerate(lowest_first))


def bitwise(first, second, width, make):
    pairs = zip(bits(first, width), bits(second, width))
    return number_of([make(one, other) for one, other in pairs])


def samples(width):
    top = 2 ** width - 1
    return sorted({0, 1 % (top + 1), top, top - 1, top // 2, top // 3, top // 2 + 1, 0xB5 % (top + 1)})


class Words(unittest.TestCase):
    def test_plain_kinds_by_word(self):
        for word, sort, asked in PLAIN:
            kind = kind_by(word)
            self.assertIs(kind.__class__, sort)
            self.assertEqual(kind.lines(), asked, word)
            self.assertEqual(kind.word(), word)

    def test_plain_kinds_by_class(self):
        for word, sort, asked in PLAIN:
            kind = sort()
            self.assertEqual((kind.word(), kind.lines()), (word, asked))

    def test_shifting_kinds_by_word_with_every_count(self):
        for word, sort in SHIFTING:
            for count in range(1, 64):
                kind = kind_by(f"{word}:{count}")
                self.assertIs(kind.__class__, sort)
                self.assertEqual(kind.lines(), 1)
                self.assertEqual(kind.word(), f"{word}:{count}")

    def test_shifting_kinds_by_class(self):
        for word, sort in SHIFTING:
            for count in (1, 9, 10, 63):
                kind = sort(count)
                self.assertEqual((kind.word(), kind.lines()), (f"{word}:{count}", 1))

    def test_all_are_beneath_kind(self):
        for one in CLASSES:
            self.assertTrue(issubclass(one, Kind), one)
            self.assertIsNot(one, Kind)

    def test_words_that_tell_no_kind(self):
        for word in (
            "", " ", ":", "::", "i", "inn", "ins", "i n", "IN", "In", "Out", "AND", "xor", "not", "kind",
            " in", "in ", "in\n", "\nin", "in\t", "and\r", "out\x00", "plus\u00a0",
            "source", "both", "None", "0", "3",
        ):
            self.assertIsNone(kind_by(word), repr(word))

    def test_counts_where_none_is_asked_for(self):
        for word, sort, asked in PLAIN:
            for tail in (":", ":0", ":1", ":3", ":63", ":x"):
                self.assertIsNone(kind_by(word + tail), word + tail)

    def test_counts_that_are_none(self):
        for word in ("up", "down"):
            for tail in (
                "", ":", ":0", ":64", ":65", ":99", ":100", ":630", ":00", ":01", ":03", ":063", ":0x3",
                ":-1", ":+1", ": 3", ":3 ", ":3\n", "\n:3", " :3", ":3:", ":3:4", "::3", ":1_0", ":3.0",
                ":a", ":three", "3", "/3", ":" + "9" * 5000, ":" + "0" * 5000 + "3",
            ):
                self.assertIsNone(kind_by(word + tail), repr((word + tail)[:20]))

    def test_signs_that_only_look_like_figures_or_letters(self):
        for word in (
            "up:\u0663", "up:\u00b3", "up:\uff13", "down:\u09e9", "up:\u2462", "up:1\u0663", "down:\u00bd",
            "up:\U0001d7db", "\u0456n", "\uff49\uff4e", "\u043eut", "\u0430nd", "\u03bfr", "plu\u0455",
            "\uff55\uff50:3", "up\uff1a3", "d\u043ewn:3", "\u0131n", "p\u0131ck", "in\u0301",
        ):
            self.assertIsNone(kind_by(word), ascii(word))

    def test_kinds_told_stand_for_themselves(self):
        kind_by("up:5").made([1], 8)
        self.assertEqual(kind_by("up:3").made([1], 8), 8)
        self.assertEqual(kind_by("up:5").made([1], 8), 32)


class Making(unittest.TestCase):
    def check_pairs(self, kind, expected):
        for width in range(1, 65):
            for first in samples(width):
                for second in samples(width):
                    self.assertEqual(
                        kind.made([first, second], width),
                        expected(first, second, width),
                        (kind.word(), first, second, width),
                    )

    def test_and(self):
        self.check_pairs(Both(), lambda a, b, w: bitwise(a, b, w, lambda x, y: x * y))

    def test_or(self):
        self.check_pairs(Either(), lambda a, b, w: bitwise(a, b, w, max))

    def test_odd(self):
        self.check_pairs(Odd(), lambda a, b, w: bitwise(a, b, w, lambda x, y: (x + y) % 2))

    def test_plus(self):
        self.check_pairs(Plus(), lambda a, b, w: (a + b) % 2 ** w)

    def test_plus_goes_round_at_its_width(self):
        for width in WIDTHS:
            top = 2 ** width - 1
            self.assertEqual(Plus().made([top, 1], width), 0)
            self.assertEqual(Plus().made([top, top], width), top - 1)
            self.assertEqual(Plus().made([top, 0], width), top)

    def test_out(self):
        for width in range(1, 65):
            for number in samples(width):
                self.assertEqual(Sink().made([number], width), number)

    def test_pick(self):
        for width in WIDTHS:
            top = 2 ** width - 1
            for first in samples(width):
                for second, third in ((0, top), (top, 0), (0, 0), (top, top), (1, top)):
                    wanted = third if first == 0 else second
                    self.assertEqual(Pick().made([first, second, third], width), wanted)

    def test_up(self):
        for width in range(1, 65):
            for count in (1, 2, 7, 31, 62, 63):
                for number in samples(width):
                    wanted = number_of(([0] * count + bits(number, width))[:width])
                    self.assertEqual(Up(count).made([number], width), wanted, (width, count, number))

    def test_down(self):
        for width in range(1, 65):
            for count in (1, 2, 7, 31, 62, 63):
                for number in samples(width):
                    wanted = number_of(bits(number, width)[count:])
                    self.assertEqual(Down(count).made([number], width), wanted, (width, count, number))

    def test_shifts_at_the_edges(self):
        top = 2 ** 64 - 1
        self.assertEqual(Up(63).made([top], 64), 2 ** 63)
        self.assertEqual(Up(1).made([top], 64), top - 1)
        self.assertEqual(Down(63).made([top], 64), 1)
        self.assertEqual(Down(1).made([top], 64), 2 ** 63 - 1)
        for width in (1, 8):
            for count in (8, 63):
                self.assertEqual(Up(count).made([2 ** width - 1], width), 0)
                self.assertEqual(Down(count).made([2 ** width - 1], width), 0)
        self.assertEqual(Up(1).made([255], 8), 254)
        self.assertEqual(Down(1).made([255], 8), 127)

    def test_each_makes_0_of_noughts(self):
        words = [word for word, sort, asked in PLAIN if word != "in"]
        for word in words + ["up:1", "up:63", "down:1", "down:63"]:
            for width in range(1, 65):
                kind = kind_by(word)
                self.assertEqual(kind.made([0] * kind.lines(), width), 0, word)

    def test_what_is_made_fits_its_width(self):
        words = [word for word, sort, asked in PLAIN if word != "in"]
        for word in words + ["up:1", "up:63", "down:1", "down:63"]:
            for width in range(1, 65):
                kind = kind_by(word)
                number = kind.made([2 ** width - 1] * kind.lines(), width)
                self.assertIs(number.__class__, int)
                self.assertTrue(0 <= number < 2 ** width, (word, width, number))

    def test_the_list_handed_in_stays_as_it_was(self):
        words = [word for word, sort, asked in PLAIN if word != "in"]
        for word in words + ["up:1", "down:63"]:
            kind = kind_by(word)
            numbers = [5, 6, 7][:kind.lines()]
            before = list(numbers)
            told = kind.made(numbers, 8)
            self.assertEqual(numbers, before, word)
            numbers[0] = 0
            self.assertEqual(kind.made(before, 8), told, word)


if __name__ == "__main__":
    unittest.main()
