"""The works that the tests draw, and what they reckon by themselves of a works, from its lines and times alone."""

import itertools
import random

ASKED = {"in": 0, "out": 1, "and": 2, "or": 2, "odd": 2, "plus": 2, "pick": 3}

# Small works of all the forms that lags meet, each with at most four parts that are no in or out.
SMALL = (
    # one part, and parts without lines
    "a in 0",
    "r up:1 7 r/1",
    "r plus 0 r/1 r/2",
    "a in 0\nb in 0",
    # in a row, with the stores here and there
    "a in 0\no out 0 a",
    "a in 0\no out 0 a/2",
    "a in 0\nx up:1 3 a\ny up:1 4 x\nz up:1 5 y\no out 0 z/2",
    "a in 0\nx up:1 3 a/2\ny up:1 4 x\nz up:1 5 y\no out 0 z",
    "a in 0\nx up:1 3 a\ny up:1 4 x/1\nz up:1 5 y\no out 0 z",
    "a in 0\nx up:1 3 a\ny up:1 4 x\nz up:1 5 y\no out 0 z",
    "o out 0 z/1\nz up:1 2 y/1\ny up:1 2 x/1\nx up:1 2 a/1\na in 0",
    # parts of time 0
    "a in 0\nx up:1 0 a\ny up:1 0 x/1\no out 0 y",
    "a in 0\nx up:1 0 a\ny up:1 6 x\nz up:1 0 y\no out 0 z/1",
    # rings, alone and fed
    "x up:1 3 z/1\ny up:1 4 x\nz up:1 5 y",
    "x up:1 3 z/3\ny up:1 4 x\nz up:1 5 y",
    "x plus 3 z/2 x/1\ny up:1 4 x\nz plus 5 y x\nw up:2 1 z/3",
    "a in 0\ns plus 4 a s/1\no out 0 s/2",
    "a in 0\nx plus 3 a z/2\ny up:1 4 x\nz up:1 5 y\no out 0 z",
    "a in 0\nx plus 3 a/1 z/2\ny up:1 4 x\nz up:1 5 y\no out 0 z/1",
    "x up:1 2 y/1\ny up:1 2 x\nv up:1 3 w\nw up:1 1 v/2",
    # several ins and outs
    "a in 0\nb in 0\nx plus 2 a b/1\ny up:1 3 x/1\no out 0 y\nq out 0 x/2",
    "a in 0\nb in 0\nx plus 2 a/2 b/1\ny plus 5 x x/1\nz up:1 1 y\no out 0 y\nq out 0 z/1\np out 0 a",
    "a in 0\nx up:1 9 a\no out 0 x\nb in 0\ny up:1 2 b/1\nz up:1 2 y/1\nq out 0 z",
    # two ways between the same parts, also of two lines
    "a in 0\nx plus 4 a a/1\ny plus 3 x x/2\no out 0 y/1",
    "a in 0\nf up:1 1 a/2\nx up:1 5 f\ny up:1 2 f/1\nj plus 1 x y\no out 0 j/1",
    "a in 0\nf up:1 1 a\nx up:1 5 f/1\ny up:1 2 f/1\nj plus 1 x y\no out 0 j",
    "a in 0\nf up:1 1 a/1\nj pick 2 f f/1 f\no out 0 j/1",
    # many lines from one part, and many to one, where stores are saved by moving them
    "a in 0\nx up:1 1 a/2\no out 0 x\np out 0 x\nq out 0 x",
    "a in 0\nx up:1 3 a\no out 0 x/1\np out 0 x/1\nq out 0 x/2",
    "a in 0\nb in 0\nc in 0\nx pick 2 a/1 b/1 c/1\no out 0 x",
    "a in 0\nx pick 2 a/2 a/1 a/1\ny up:1 2 x\no out 0 y",
    # a part that nothing goes from, and one that no in feeds
    "a in 0\nx up:1 3 a/1\ny up:1 2 x",
    "r up:1 2 r/2\nx up:1 3 r\ny up:1 4 x\no out 0 y/1",
)


def drawn_text(draw, parts, most_time, most_stores):
    """A works without a ring of lines without stores: these only come from parts that are drawn ahead."""
    names = [f"p{place}" for place in range(parts)]
    words = []
    for place in range(parts):
        shift = draw.choice(["up:", "down:"]) + str(draw.choice([1, 2, 3, 63]))
        words.append(draw.choice(["in", "and", "or", "odd", "plus", "plus", "pick", "out", shift, shift]))
    if set(words) == {"out"}:
        words[0] = "in"
    givers = [place for place in range(parts) if words[place] != "out"]
    rows = []
    for place in range(parts):
        lines = []
        for line in range(ASKED.get(words[place], 1)):
            start = draw.choice(givers)
            least = 0 if start < place else 1
            lines.append(f"{names[start]}/{draw.randrange(least, max(least, most_stores) + 1)}")
        time = 0 if words[place] in ("in", "out") else draw.randrange(most_time + 1)
        rows.append(" ".join([names[place], words[place], str(time)] + lines))
    draw.shuffle(rows)
    return "\n".join(rows)


def large_texts():
    """Works of 60 parts with 100 stores on lines, of several forms."""
    draw = random.Random(60)
    ring = [f"p{place} pick {1000 - place} p{place - 1} p{max(0, place - 2)} p{place // 2}" for place in range(1, 60)]
    row = [f"p{place} up:1 {900 + place} p{place - 1}" for place in range(1, 59)]
    mesh = [
        f"p{place} pick {draw.randrange(1001)} "
        + " ".join(f"p{draw.randrange(place)}/{draw.choice([0, 0, 100])}" for line in range(3))
        for place in range(1, 59)
    ]
    return [
        "\n".join(["p0 plus 1000 p59/100 p30/50"] + ring),
        "\n".join(["p0 in 0"] + row + ["p59 out 0 p58/100"]),
        "\n".join(["p0 in 0"] + mesh + ["p59 out 0 p58/100"]),
    ] + [drawn_text(draw, 60, 1000, 100) for case in range(3)]


def drawn_lags(draw, works, steps):
    """Lags that leave no line fewer than 0 stores: one part's lag after another's is changed by 1 where that may be."""
    lags = dict.fromkeys(works.names(), 0)
    inner = inner_names(works)
    for step in range(steps if inner else 0):
        name = draw.choice(inner)
        tried = {**lags, name: lags[name] + draw.choice([-1, 1])}
        if min(stores for start, end, stores in moved_lines(works, tried)) >= 0:
            lags = tried
    return lags


def times_of(works):
    return {name: works.time(name) for name in works.names()}


def inner_names(works):
    return [name for name in works.names() if works.kind(name).word() not in ("in", "out")]


def moved_lines(works, lags):
    return [(start, end, stores + lags[end] - lags[start]) for start, end, stores in works.lines()]


def total(lines):
    return sum(stores for start, end, stores in lines)


def every_way(lines):
    """The places of the lines of each way without stores, so many that only small works are asked for them."""
    ways = [[place] for place, line in enumerate(lines) if line[2] == 0]
    for way in ways:
        ways.extend(way + [place] for place, line in enumerate(lines) if line[2] == 0 and line[0] == lines[way[-1]][1])
    return ways


def way_time(times, lines, way):
    return times[lines[way[0]][0]] + sum(times[lines[place][1]] for place in way)


def way_stores(lines, way):
    return sum(lines[place][2] for place in way)


def beat_of(times, lines):
    """The most that a way without stores takes: arrivals raised for as long as a line without stores asks for it."""
    direct = [(start, end) for start, end, stores in lines if stores == 0]
    taken = dict(times)
    raised = True
    while raised:
        raised = False
        for start, end in direct:
            if taken[start] + times[end] > taken[end]:
                taken[end] = taken[start] + times[end]
                raised = True
    return max(taken.values())


def fewest_by_beat(works, bound):
    """For each beat that lags from -bound to bound make, the fewest stores that such lags leave.

    Lags that make a beat make it within as many as there are parts that are no in or out, if any do.
    """
    inner = inner_names(works)
    times = times_of(works)
    found = {}
    for drawn in itertools.product(range(-bound, bound + 1), repeat=len(inner)):
        lags = dict.fromkeys(works.names(), 0)
        lags.update(zip(inner, drawn))
        lines = moved_lines(works, lags)
        if all(stores >= 0 for start, end, stores in lines):
            made = beat_of(times, lines)
            found[made] = min(found.get(made, total(lines)), total(lines))
    return found


class Checks:
    """What the tests of lags and ways ask of an answer; for a TestCase."""

    def check_lags(self, works, lags, most):
        self.assertIs(lags.__class__, dict)
        self.assertEqual(sorted(lags), sorted(works.names()))
        inner = inner_names(works)
        for name in lags:
            self.assertIs(lags[name].__class__, int)
            if name not in inner:
                self.assertEqual(lags[name], 0)
        lines = moved_lines(works, lags)
        for start, end, stores in lines:
            self.assertGreaterEqual(stores, 0)
        self.assertLessEqual(beat_of(times_of(works), lines), most)

    def check_way(self, works, way):
        lines = works.lines()
        self.assertIs(way.__class__, list)
        self.assertNotEqual(way, [])
        for place in way:
            self.assertIs(place.__class__, int)
            self.assertIn(place, range(len(lines)))
        for place, other in zip(way, way[1:]):
            self.assertEqual(lines[place][1], lines[other][0])

    def check_ring(self, works, most, ring):
        self.assertIs(ring.__class__, list)
        self.assertNotEqual(ring, [])
        times = times_of(works)
        if isinstance(ring[0], str):
            self.assertEqual(len(ring), 1)
            self.assertGreater(times[ring[0]], most)
            return
        lines = works.lines()
        inner = inner_names(works)
        for place, way in enumerate(ring):
            self.check_way(works, way)
            ended = lines[ring[place - 1][-1]][1]
            begun = lines[way[0]][0]
            self.assertEqual(ended if ended in inner else "", begun if begun in inner else "")
        held = sum(way_stores(lines, way) for way in ring)
        self.assertLess(held, sum(way_time(times, lines, way) > most for way in ring))

    def check_floor(self, works, most, pairs, left):
        self.assertIs(pairs.__class__, list)
        lines = works.lines()
        times = times_of(works)
        balance = dict.fromkeys(works.names(), 0)
        for start, end, stores in lines:
            balance[start] += 1
            balance[end] -= 1
        least = total(lines)
        for pair in pairs:
            self.assertIs(pair.__class__, tuple)
            way, amount = pair
            self.check_way(works, way)
            self.assertIs(amount.__class__, int)
            self.assertGreater(amount, 0)
            balance[lines[way[0]][0]] -= amount
            balance[lines[way[-1]][1]] += amount
            must = 1 if way_time(times, lines, way) > most else 0
            least -= amount * (way_stores(lines, way) - must)
        for name in inner_names(works):
            self.assertEqual(balance[name], 0)
        self.assertEqual(least, left)
