"""Which gaps, windows and orders are sure."""

from earlyorlate.longer import denying_bound, denying_gap
from earlyorlate.reasons import check_fit, reason
from earlyorlate.stretches import ends_of_rows, greatest_high, least_gap, least_low, time_stretches
from earlyorlate.ways import all_ways


def _surest_gap(ways, ends, a, b):
    return least_low([least_gap(ways, some, a, b) for some in ends])


def sure_gap(book, a, b):
    """Return the greatest number by which the time of b is surely at least ahead of that of a, or None."""
    return _surest_gap(all_ways(book), ends_of_rows(book), a, b)


def sure_window(book, e):
    """Return the greatest number that the time of e is surely not below, and the least one it is not above."""
    stretches = time_stretches(book, e)
    return (least_low([low for low, _ in stretches]), greatest_high([high for _, high in stretches]))


def sure_order(book):
    """Return the ascending list of the pairs of events of which the first one is surely ahead of the other one."""
    ways = all_ways(book)
    ends = ends_of_rows(book)
    pairs = [(a, b) for a in range(book.events) for b in range(book.events)]
    gaps = [_surest_gap(ways, ends, a, b) for a, b in pairs]
    return [pair for pair, gap in zip(pairs, gaps) if gap is not None and gap > 0]


def why_gap(book, a, b, g):
    """Return a reason of the book with the contrary of the gap (a, b, g) more, or None if this is not sure."""
    check_fit(book)
    return reason(denying_gap(book, a, b, g))


def why_bound(book, e, side, x):
    """Return a reason of the book with the contrary of the bound (e, side, x) more, or None if this is not sure."""
    check_fit(book)
    return reason(denying_bound(book, e, side, x))
