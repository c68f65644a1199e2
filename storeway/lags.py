"""Stores moved along the lines of a works by lags, counted, and multiplied."""

from storeway.errors import BadLag
from storeway.kinds import is_end
from storeway.works import Works


def with_lines(works, lines):
    return Works([(name, works.kind(name), works.time(name)) for name in works.names()], lines)


def refuse_lags(works, lags):
    if sorted(lags) != sorted(works.names()):
        raise BadLag("lags are told for just the parts of the works")
    for name in works.names():
        if lags[name] != 0 and is_end(works.kind(name)):
            raise BadLag(f"{name} is an in or an out, and its lag is not 0")


def moved(works, lags):
    refuse_lags(works, lags)
    lines = [(start, end, held + lags[end] - lags[start]) for start, end, held in works.lines()]
    for start, end, held in lines:
        if held < 0:
            raise BadLag(f"a line from {start} to {end} is left {held} stores")
    return with_lines(works, lines)


def stores(works):
    return sum([held for start, end, held in works.lines()])


def slowed(works, times=2):
    return with_lines(works, [(start, end, held * times) for start, end, held in works.lines()])
