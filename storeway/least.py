"""The shortest beat that lags can make, and the rings of ways that bar a shorter one."""

from storeway.beats import beat
from storeway.kinds import is_end

# The lag of every in and out is 0, so lags see them all as one part; no part has this name.
ENDS = ""


# It begins and ends at parts as lags see them; its places are those of its lines.
class Way:
    def __init__(self, begin, end, held, taken, places):
        self.begin = begin
        self.end = end
        self.held = held
        self.taken = taken
        self.places = places


# What a way holds beyond what it must hold, however stores are moved.
def spare(way, most):
    return way.held - 1 if way.taken > most else way.held


def seen_as(works, name):
    return ENDS if is_end(works.kind(name)) else name


def inner_names(works):
    return [name for name in works.names() if not is_end(works.kind(name))]


def line_way(works, line, place):
    taken = works.time(line[0]) + works.time(line[1])
    return Way(seen_as(works, line[0]), seen_as(works, line[1]), line[2], taken, [place])


def joined(first, second, shared):
    taken = first.taken + second.taken - shared
    return Way(first.begin, second.end, first.held + second.held, taken, first.places + second.places)


# Of two ways between the same parts, one with fewer stores bounds the lags at least as much at any beat;
# of as many stores, one that takes longer.
def keep_tighter(ways, way):
    kept = ways[way.begin].get(way.end)
    if kept is None or (way.held, -way.taken) < (kept.held, -kept.taken):
        ways[way.begin][way.end] = way


# The tightest way from each part to each, so far as there is one. Each ring of lines holds a store, so none of these
# ways is tighter for going round one.
def tightest(works):
    inner = inner_names(works)
    ways = {ENDS: {}}
    for name in inner:
        ways[name] = {}
    for place, line in enumerate(works.lines()):
        keep_tighter(ways, line_way(works, line, place))
    # Ways go through inner parts alone: nothing comes to an in, and nothing goes from an out.
    for middle in inner:
        onward = list(ways[middle].values())
        for begin in [ENDS] + inner:
            first = ways[begin].get(middle)
            if first is not None:
                for second in onward:
                    keep_tighter(ways, joined(first, second, works.time(middle)))
    kept = []
    for begin in [ENDS] + inner:
        kept.extend(list(ways[begin].values()))
    return kept


def ring_from(onward, begin):
    # Beyond as many steps as there are ways to go, each further one is on the ring.
    for turn in range(len(onward)):
        begin = onward[begin].end
    ring = [onward[begin]]
    while ring[-1].end != begin:
        ring.append(onward[ring[-1].end])
    return ring


# A way is left its stores and its end's lag, less its begin's: where that is too little, its begin's lag is lowered.
def lower_begins(lags, bounds, onward):
    lowered = None
    for way, bound in bounds:
        if lags[way.end] + bound < lags[way.begin]:
            lowered = way.begin
            lags[lowered] = lags[way.end] + bound
            onward[lowered] = way
    return lowered


# Lags by which each way holds what it must, and no ring; or no lags, and a ring of ways that bars them.
def settled_lags(works, ways, most):
    names = [ENDS] + inner_names(works)
    lags = {}
    for name in names:
        lags[name] = 0
    bounds = [(way, spare(way, most)) for way in ways]
    onward = {}
    # Where nothing bars them, lags are settled in as many turns as there are names, the last one lowering none.
    for turn in range(len(names)):
        lowered = lower_begins(lags, bounds, onward)
        if lowered is None:
            return (lags, None)
    return (None, ring_from(onward, lowered))


# Lags bound one another by their differences alone, so all may be shifted to bring the ins and outs to 0.
def lags_by_part(works, lags):
    told = {}
    for name in works.names():
        told[name] = lags[seen_as(works, name)] - lags[ENDS]
    return told


def overlong(works, most):
    return [name for name in works.names() if works.time(name) > most]


def bars(works, most):
    slow = overlong(works, most)
    if slow != []:
        return slow[:1]
    ring = settled_lags(works, tightest(works), most)[1]
    return None if ring is None else [way.places for way in ring]


def shortest(works):
    ways = tightest(works)
    least = max([works.time(name) for name in works.names()])
    # The works' own beat is made by lags of 0.
    enough = beat(works)
    while least < enough:
        middle = (least + enough) // 2
        if settled_lags(works, ways, middle)[1] is None:
            enough = middle
        else:
            least = middle + 1
    return lags_by_part(works, settled_lags(works, ways, enough)[0])
