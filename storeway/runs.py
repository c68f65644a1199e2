"""A works run beat by beat, all its stores holding 0 at first."""

from storeway.kinds import Source
from storeway.works import settled


def coming(given, line, beat):
    start = line[0]
    stores = line[2]
    return given[start][beat - stores] if stores <= beat else 0


def run(works, rows, beats, width=8):
    given = {}
    lines_to = {}
    for name in works.names():
        given[name] = []
        lines_to[name] = [line for line in works.lines() if line[1] == name]
    order = settled(works)
    for beat in range(beats):
        for name in order:
            kind = works.kind(name)
            if isinstance(kind, Source):
                given[name].append(rows[name][beat])
            else:
                numbers = [coming(given, line, beat) for line in lines_to[name]]
                given[name].append(kind.made(numbers, width))
    return given
