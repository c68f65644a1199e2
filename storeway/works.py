"""A works: read from its text with all refusals, and shown as a text again."""

from storeway.errors import BadRow, NoPart, Ring, TooMany
from storeway.kinds import Sink, is_end, kind_by
from storeway.signs import is_name, number_by

MOST_PARTS = 60
MOST_TIME = 1000
MOST_STORES = 100


# Parts are tuples (name, kind, time), lines tuples (from, to, stores), both in the order of the rows.
class Works:
    def __init__(self, parts, lines):
        self.parts = {}
        for name, kind, time in parts:
            self.parts[name] = (kind, time)
        self.joints = list(lines)

    def names(self):
        return list(self.parts)

    def kind(self, name):
        return self.parts[name][0]

    def time(self, name):
        return self.parts[name][1]

    def lines(self):
        return list(self.joints)


# In this order each part stands behind all that it gets a number of in the same beat.
# Parts that no such order holds, on a ring without stores or fed by one, are left out.
def settled(works):
    direct = [(start, end) for start, end, stores in works.lines() if stores == 0]
    waits = {}
    for name in works.names():
        waits[name] = 0
    for start, end in direct:
        waits[end] += 1
    order = [name for name in works.names() if waits[name] == 0]
    passed = 0
    while passed < len(order):
        for start, end in direct:
            if start == order[passed]:
                waits[end] -= 1
                if waits[end] == 0:
                    order.append(end)
        passed += 1
    return order


# Only the blank parts words: split without it would also part them at tabs and their like.
def words_of(row):
    return [word for word in row.split(" ") if word != ""]


def part_by(words, place):
    if len(words) < 3 or not is_name(words[0]):
        raise BadRow(place)
    kind = kind_by(words[1])
    time = number_by(words[2], MOST_TIME)
    if kind is None or time is None or len(words) != 3 + kind.lines():
        raise BadRow(place)
    if time > 0 and is_end(kind):
        raise BadRow(place)
    return (words[0], kind, time)


def line_by(word, end, place):
    pieces = word.partition("/")
    stores = 0 if pieces[1] == "" else number_by(pieces[2], MOST_STORES)
    if stores is None or not is_name(pieces[0]):
        raise BadRow(place)
    return (pieces[0], end, stores)


def refuse_loose(works, places):
    givers = [name for name in works.names() if not isinstance(works.kind(name), Sink)]
    for start, end, stores in works.lines():
        if start not in givers:
            raise NoPart(places[end])


def refuse_rings(works):
    if len(settled(works)) < len(works.names()):
        raise Ring("lines without stores go round in a ring")


def read(text):
    parts = []
    lines = []
    places = {}
    # Line feeds alone part rows: splitlines would also part them at other signs.
    for place, row in enumerate(text.split("\n")):
        words = words_of(row)
        if words == []:
            continue
        part = part_by(words, place)
        lines.extend([line_by(word, part[0], place) for word in words[3:]])
        if part[0] in places:
            raise BadRow(place)
        if len(parts) == MOST_PARTS:
            raise TooMany("a works has 60 parts at most")
        places[part[0]] = place
        parts.append(part)
    if parts == []:
        raise TooMany("a works has a part at least")
    works = Works(parts, lines)
    refuse_loose(works, places)
    refuse_rings(works)
    return works


def line_word(start, stores):
    return start if stores == 0 else start + "/" + str(stores)


def shown(works):
    rows = []
    for name in works.names():
        words = [name, works.kind(name).word(), str(works.time(name))]
        words.extend([line_word(start, stores) for start, end, stores in works.lines() if end == name])
        rows.append(" ".join(words))
    return "\n".join(rows)
