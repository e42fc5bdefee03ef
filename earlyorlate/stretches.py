"""Stretches: tuples (low, high) of all integers from low to high, None standing for no end at this side."""

from earlyorlate.ends import ceilings_with, floors_with, high_end, highs_with, low_end, lows_with
from earlyorlate.rows import sure_rows
from earlyorlate.ways import all_ways


def time_stretches(book, e):
    """Return a list of the stretch of the times of an event with each kinds that fit, or raise NoFit."""
    ways = all_ways(book)
    return [
        (low_end(ways, floors_with(book, row), e), high_end(ways, ceilings_with(book, row), e))
        for row in sure_rows(book)
    ]


def ends_of_rows(book):
    """Return a list of the least and the greatest times of all events with each kinds that fit, or raise NoFit."""
    ways = all_ways(book)
    return [(lows_with(book, ways, row), highs_with(book, ways, row)) for row in sure_rows(book)]


def least_gap(ways, ends, a, b):
    """Return how much the time of b is at least ahead of that of a, between these ends, or None."""
    lows, highs = ends
    found = []
    if ways[a][b] is not None:
        found.append(ways[a][b][0])
    if lows[b] is not None and highs[a] is not None:
        found.append(lows[b] - highs[a])
    return max(found, default=None)


def least_low(lows):
    """Return the least one of these lower ends, None if one of them is none."""
    if None in lows:
        return None
    return min(lows)


def greatest_high(highs):
    """Return the greatest one of these upper ends, None if one of them is none."""
    if None in highs:
        return None
    return max(highs)


def merged(stretches):
    """Return the ascending list of the stretches, as long as possible, which hold just what these hold."""
    found = []
    for low, high in sorted(stretches, key=place):
        if found and _reaches(found[-1], low):
            found[-1] = (found[-1][0], greatest_high([found[-1][1], high]))
        else:
            found.append((low, high))
    return found


def place(stretch):
    """Return what stretches, or tuples that begin with one, are sorted by: those without a lower end come first."""
    low = stretch[0]
    if low is None:
        return (0, 0)
    return (1, low)


def _reaches(stretch, low):
    """Return whether no integer lies between a stretch and one with this lower end that is sorted behind it."""
    return stretch[1] is None or low is None or low <= stretch[1] + 1


def rest_of(stretches):
    """Return the ascending list of the stretches, as long as possible, of all integers that none of these holds.

    These are such a list themselves.
    """
    found = []
    begin = None
    for low, high in stretches:
        if low is not None:
            found.append((begin, low - 1))
        if high is None:
            return found
        begin = high + 1
    return found + [(begin, None)]


def is_within(stretch, low, high):
    """Return whether a stretch holds all that the stretch from low to high holds."""
    least, greatest = stretch
    if least is not None and (low is None or low < least):
        return False
    return greatest is None or high is not None and high <= greatest
