"""Another clock, on which all times are greater by one and the same shift."""

from earlyorlate.fits import clauses_hold
from earlyorlate.links import excess_of, paths_between, witness_of
from earlyorlate.longer import Retold, as_book
from earlyorlate.stretches import merged, rest_of
from earlyorlate.ways import all_ways, ring_in


def shifted(book, others, shift):
    """Return the Book that says by the first clock what these others tell by one which is ahead by the shift."""
    return as_book(shifted_far(book, others, shift))


def shifted_far(book, others, shift):
    """Return what shifted returns, but its numbers may be of any size."""
    return Retold(book, [_told(telling, others, shift) for telling in book.tellings])


def _told(telling, others, shift):
    w, e, x = telling
    if w in others:
        return (w, e, x - shift)
    return telling


def link_stretch(book, others, path):
    """Return the stretch of the shifts with which a floor, a way and a ceiling are a link, or None."""
    return _stretch_above(book, others, path, excess_of(book, path))


def _stretch_above(book, others, path, excess):
    """Return the stretch of the shifts with which an excess, that of a path without a shift, is above 0, or None."""
    start, _, end = path
    start_moves = witness_of(book, start) in others
    end_moves = witness_of(book, end) in others
    if start_moves and not end_moves:
        return (None, excess - 1)
    if end_moves and not start_moves:
        return (1 - excess, None)
    if excess > 0:
        return (None, None)
    return None


def stretched_links(book, others, ways):
    """Return a list with a tuple (stretch, path) for each floor and each ceiling that are a link with some shift."""
    stretched = [(_stretch_above(book, others, path, excess), path) for excess, path in paths_between(book, ways)]
    return [(stretch, path) for stretch, path in stretched if stretch is not None]


def barred_stretches(book, stretched):
    """Return a dict with merged stretches for pairs of witnesses, None standing for a bound in the place of one.

    With the shifts in these the first one being early, or a bound, contradicts the second one being late, or a bound.
    """
    barred = {}
    for stretch, path in stretched:
        start, _, end = path
        pair = (witness_of(book, start), witness_of(book, end))
        barred[pair] = merged(barred.get(pair, []) + [stretch])
    return barred


def stretch_with(book, barred, kinds):
    """Return the stretch of the shifts with which these kinds fit, or None, by the stretches that are barred."""
    if not clauses_hold(book, kinds):
        return None
    found = []
    for pair, stretches in barred.items():
        w, v = pair
        if (w is None or kinds[w] == "early") and (v is None or kinds[v] == "late"):
            found = found + stretches
    # Each of these has no end at one side, so they leave one stretch at most.
    free = rest_of(merged(found))
    if not free:
        return None
    return free[0]


def shift_stretch(book, others, kinds):
    """Return a tuple of the least and the greatest shift with which these kinds fit, or None if there are none."""
    ways = all_ways(book)
    if ring_in(ways) is not None:
        return None
    return stretch_with(book, barred_stretches(book, stretched_links(book, others, ways)), kinds)
