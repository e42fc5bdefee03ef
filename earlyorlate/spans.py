"""Which times an event can have, and how far two events can lie apart."""

from earlyorlate.fits import explained
from earlyorlate.longer import Longer
from earlyorlate.reasons import check_fit, reason
from earlyorlate.stretches import ends_of_rows, least_gap, merged, time_stretches
from earlyorlate.ways import all_ways


def times_of(book, e):
    """Return the ascending list of the stretches of the times that an event has in some explanation."""
    return merged(time_stretches(book, e))


def gaps_of(book, a, b):
    """Return the ascending list of the stretches of what the time of b can be ahead of that of a."""
    ways = all_ways(book)
    return merged([(least_gap(ways, ends, a, b), _greatest_gap(ways, ends, a, b)) for ends in ends_of_rows(book)])


def _greatest_gap(ways, ends, a, b):
    back = least_gap(ways, ends, b, a)
    if back is None:
        return None
    return -back


def _explanation(book):
    found = explained(book)
    if found[0] == "fits":
        return found[1:]
    return None


def at_time(book, e, x):
    """Return an explanation in which the time of e is x, or None if there is none."""
    check_fit(book)
    return _explanation(_book_with_window(book, e, x, x))


def at_gap(book, a, b, d):
    """Return an explanation in which the time of b is ahead of that of a by d, or None if there is none."""
    check_fit(book)
    if a != b:
        return _explanation(_book_with_gaps(book, a, b, d, d))
    if d == 0:
        return _explanation(book)
    return None


def why_never(book, e, low, high):
    """Return a reason of the book with the time of e from low to high, or None if it can be there."""
    check_fit(book)
    return reason(_book_with_window(book, e, low, high))


def why_no_gap(book, a, b, low, high):
    """Return a reason of the book with the time of b ahead of that of a by low to high, or None if it can be."""
    check_fit(book)
    return reason(_book_with_gaps(book, a, b, low, high))


def _book_with_window(book, e, low, high):
    return Longer(book, sure=((e, "least", low), (e, "most", high)))


def _book_with_gaps(book, a, b, low, high):
    return Longer(book, gaps=((a, b, low), (b, a, -high)))
