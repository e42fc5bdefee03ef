"""Between which ends the times of the events lie, with given kinds."""


def floors_with(book, kinds):
    """Return a list with the event and the number of each floor that holds with these kinds."""
    return _held(book, kinds, "early", "least")


def ceilings_with(book, kinds):
    """Return a list with the event and the number of each ceiling that holds with these kinds."""
    return _held(book, kinds, "late", "most")


def _held(book, kinds, wanted_kind, wanted_side):
    told = [(e, x) for w, e, x in book.tellings if kinds[w] == wanted_kind]
    return told + [(e, x) for e, side, x in book.sure if side == wanted_side]


def low_end(ways, floors, e):
    """Return the least time of an event above these floors, or None if none of them leads to it."""
    ends = [x + ways[a][e][0] for a, x in floors if ways[a][e] is not None]
    return max(ends, default=None)


def high_end(ways, ceilings, e):
    """Return the greatest time of an event below these ceilings, or None if it leads to none of them."""
    ends = [x - ways[e][b][0] for b, x in ceilings if ways[e][b] is not None]
    return min(ends, default=None)


def lows_with(book, ways, kinds):
    """Return the list of the least times of the events with kinds that fit, None standing where there is none."""
    floors = floors_with(book, kinds)
    return [low_end(ways, floors, e) for e in range(book.events)]


def highs_with(book, ways, kinds):
    """Return the list of the greatest times of the events with kinds that fit, None standing where there is none."""
    ceilings = ceilings_with(book, kinds)
    return [high_end(ways, ceilings, e) for e in range(book.events)]
