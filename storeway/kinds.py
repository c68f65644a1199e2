"""The kinds of part: the word of each, the lines it asks for, and what it makes of the numbers that come."""

from storeway.signs import number_by

MOST_PLACES = 63


class Kind:
    def __init__(self, told, asked):
        self.told = told
        self.asked = asked

    def lines(self):
        return self.asked

    # A source has nothing to make; where nothing comes, all that comes is 0, which makes 0.
    def made(self, numbers, width):
        return 0

    def word(self):
        return self.told


class Source(Kind):
    def __init__(self):
        Kind.__init__(self, "in", 0)


class Sink(Kind):
    def __init__(self):
        Kind.__init__(self, "out", 1)

    def made(self, numbers, width):
        return numbers[0]


class Both(Kind):
    def __init__(self):
        Kind.__init__(self, "and", 2)

    def made(self, numbers, width):
        return numbers[0] & numbers[1]


class Either(Kind):
    def __init__(self):
        Kind.__init__(self, "or", 2)

    def made(self, numbers, width):
        return numbers[0] | numbers[1]


class Odd(Kind):
    def __init__(self):
        Kind.__init__(self, "odd", 2)

    def made(self, numbers, width):
        return numbers[0] ^ numbers[1]


class Plus(Kind):
    def __init__(self):
        Kind.__init__(self, "plus", 2)

    def made(self, numbers, width):
        return (numbers[0] + numbers[1]) % (1 << width)


class Pick(Kind):
    def __init__(self):
        Kind.__init__(self, "pick", 3)

    def made(self, numbers, width):
        return numbers[1] if numbers[0] != 0 else numbers[2]


class Up(Kind):
    def __init__(self, count):
        Kind.__init__(self, "up:" + str(count), 1)
        self.count = count

    def made(self, numbers, width):
        return (numbers[0] << self.count) % (1 << width)


class Down(Kind):
    def __init__(self, count):
        Kind.__init__(self, "down:" + str(count), 1)
        self.count = count

    def made(self, numbers, width):
        return numbers[0] >> self.count


def plain_kind(word):
    if word == "in":
        return Source()
    if word == "out":
        return Sink()
    if word == "and":
        return Both()
    if word == "or":
        return Either()
    if word == "odd":
        return Odd()
    if word == "plus":
        return Plus()
    if word == "pick":
        return Pick()
    return None


def shifting_kind(word, count):
    if word == "up":
        return Up(count)
    if word == "down":
        return Down(count)
    return None


def is_end(kind):
    return isinstance(kind, (Source, Sink))


def kind_by(word):
    pieces = word.partition(":")
    if pieces[1] == "":
        return plain_kind(word)
    count = number_by(pieces[2], MOST_PLACES)
    if count is None or count == 0:
        return None
    return shifting_kind(pieces[0], count)
