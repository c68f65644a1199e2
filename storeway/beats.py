"""The beat of a works: the most that a way without stores takes."""

from storeway.works import settled


def feeders(works, name):
    return [start for start, end, stores in works.lines() if end == name and stores == 0]


def arrivals(works):
    taken = {}
    # All names come first, so that they are told in the order of the rows.
    for name in works.names():
        taken[name] = works.time(name)
    for name in settled(works):
        taken[name] += max([taken[start] for start in feeders(works, name)], default=0)
    return taken


def beat(works):
    return max(arrivals(works).values())


def longest(works):
    taken = arrivals(works)
    most = max(taken.values())
    way = [[name for name in works.names() if taken[name] == most][0]]
    while taken[way[-1]] > works.time(way[-1]):
        rest = taken[way[-1]] - works.time(way[-1])
        way.append([start for start in feeders(works, way[-1]) if taken[start] == rest][0])
    way.reverse()
    return way
