"""Explanations of books, and the kinds that fit."""

from earlyorlate.ends import ceilings_with, floors_with, high_end, low_end, lows_with
from earlyorlate.links import links_in
from earlyorlate.reasons import reason
from earlyorlate.steps import paths_in, steps_in
from earlyorlate.ways import all_ways, ring_in
from earlyorlate.words import are_kinds, is_integer, is_tuple


def is_explanation(book, thing):
    """Return whether thing, any value, is an explanation."""
    if not is_tuple(thing, 2):
        return False
    kinds, times = thing
    if not are_kinds(kinds, book.witnesses):
        return False
    if not is_tuple(times, book.events) or not all([is_integer(time) for time in times]):
        return False
    return clauses_hold(book, kinds) and _gaps_hold(book, times) and _ends_hold(book, kinds, times)


def clauses_hold(book, kinds):
    """Return whether all clauses hold with these kinds."""
    return all([kinds[w] == kind or kinds[v] == other for w, kind, v, other in book.clauses])


def _gaps_hold(book, times):
    return all([times[b] >= times[a] + g for a, b, g in book.gaps])


def _ends_hold(book, kinds, times):
    floors = all([times[e] >= x for e, x in floors_with(book, kinds)])
    ceilings = all([times[e] <= x for e, x in ceilings_with(book, kinds)])
    return floors and ceilings


def fits(book, kinds):
    """Return whether these kinds are those of some explanation."""
    ways = all_ways(book)
    if ring_in(ways) is not None or not clauses_hold(book, kinds):
        return False
    lows = lows_with(book, ways, kinds)
    return all([lows[e] is None or lows[e] <= x for e, x in ceilings_with(book, kinds)])


def some_times(book, kinds):
    """Return a tuple of times with which kinds that fit are an explanation."""
    ways = all_ways(book)
    floors = floors_with(book, kinds)
    ceilings = ceilings_with(book, kinds)
    times = []
    for e in range(book.events):
        time = _time_between(low_end(ways, floors, e), high_end(ways, ceilings, e))
        times.append(time)
        # The times of the events behind have to be right beside this one.
        floors.append((e, time))
        ceilings.append((e, time))
    return tuple(times)


def _time_between(low, high):
    if low is not None:
        return low
    if high is not None:
        return high
    return 0


def _some_kinds(book):
    """Return kinds that fit, of a book that has an explanation."""
    steps = steps_in(book, links_in(book, all_ways(book)))
    kinds = {}
    for w in range(book.witnesses):
        if w not in kinds:
            kinds.update(_followers(steps, w))
    return tuple([kinds[w] for w in range(book.witnesses)])


def _followers(steps, w):
    """Return a dict with the kinds that follow from a kind that w can have."""
    early = paths_in(steps, (w, "early"))
    if (w, "late") in early:
        return {v: kind for v, kind in paths_in(steps, (w, "late"))}
    return {v: kind for v, kind in early}


def explained(book):
    """Return a tuple ("fits", kinds, times) with an explanation, or a reason if there is none."""
    found = reason(book)
    if found is not None:
        return found
    kinds = _some_kinds(book)
    return ("fits", kinds, some_times(book, kinds))


def has_fit(book):
    """Return whether the book has an explanation."""
    return reason(book) is None
