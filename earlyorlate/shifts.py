"""All shifts of another clock: which of them fit, and why the others do not."""

from earlyorlate.clocks import barred_stretches, link_stretch, shift_stretch, shifted_far, stretch_with, stretched_links
from earlyorlate.reasons import bare_and_steps, circle_in, is_reason, links_of
from earlyorlate.rows import all_kinds
from earlyorlate.steps import steps_in
from earlyorlate.stretches import is_within, merged, place, rest_of
from earlyorlate.ways import all_ways
from earlyorlate.words import are_kinds, is_integer, is_tuple


def pieces(book, others):
    """Return pieces in which each shift that fits stands."""
    if bare_and_steps(book)[0] is not None:
        return []
    barred = barred_stretches(book, stretched_links(book, others, all_ways(book)))
    found = []
    for kinds in all_kinds(book.witnesses):
        stretch = stretch_with(book, barred, kinds)
        if stretch is not None:
            found.append(stretch + (kinds,))
    return _apart(sorted(found, key=place))


def _apart(some_pieces):
    """Return pieces that hold the same shifts as these, which are sorted, but none twice."""
    found = []
    for low, high, kinds in some_pieces:
        begin = low
        if found:
            reached = found[-1][1]
            if reached is None:
                return found
            if low is None or low <= reached:
                begin = reached + 1
        if begin is None or high is None or begin <= high:
            found.append((begin, high, kinds))
    return found


def shift_stretches(book, others):
    """Return the ascending list of the stretches of all shifts that fit."""
    return merged([(low, high) for low, high, _ in pieces(book, others)])


def holes(book, others):
    """Return holes in which each shift stands that does not fit."""
    # A reason that names nobody has no tellings in it, so it is one with each shift.
    bare = bare_and_steps(book)[0]
    if bare is not None:
        return [(None, None, bare)]
    # Of several steps between two literals steps_in takes the last one, which is to last longest here.
    lasting = sorted(stretched_links(book, others, all_ways(book)), key=_end)
    found = []
    for low, high in rest_of(shift_stretches(book, others)):
        found = found + _holes_between(book, others, lasting, low, high)
    return found


def _end(stretched):
    """Return what links with their stretches are sorted by: those without an upper end come last."""
    high = stretched[0][1]
    if high is None:
        return (1, 0)
    return (0, high)


def _holes_between(book, others, lasting, low, high):
    """Return holes in which all shifts from low to high stand, none of which fits."""
    found = []
    begin = low
    while True:
        links = [path for stretch, path in lasting if _is_held(stretch, begin)]
        circle = circle_in(steps_in(book, links))
        ends = [link_stretch(book, others, path)[1] for path in links_of(circle)]
        end = min([some for some in ends + [high] if some is not None], default=None)
        found.append((begin, end, circle))
        if end == high:
            return found
        begin = end + 1


def _is_held(stretch, shift):
    """Return whether a shift stands in a stretch; None is one that is less than all others."""
    low, high = stretch
    if shift is None:
        return low is None
    return is_within(stretch, shift, shift)


def _are_ends(low, high):
    """Return whether these, any values, are the ends of a stretch."""
    if low is None or high is None:
        return all([end is None or is_integer(end) for end in (low, high)])
    return is_integer(low) and is_integer(high) and low <= high


def _are_in_order(thing):
    """Return whether thing, any value, is a list of tuples (low, high, some value), each behind the one ahead."""
    if not isinstance(thing, list) or not all([is_tuple(row, 3) and _are_ends(row[0], row[1]) for row in thing]):
        return False
    lows = [row[0] for row in thing[1:]]
    highs = [row[1] for row in thing[:-1]]
    return all([low is not None and high is not None and high < low for low, high in zip(lows, highs)])


def are_pieces(book, others, thing):
    """Return whether thing, any value, is pieces."""
    return _are_in_order(thing) and all([_is_piece(book, others, *row) for row in thing])


def _is_piece(book, others, low, high, kinds):
    if not are_kinds(kinds, book.witnesses):
        return False
    stretch = shift_stretch(book, others, kinds)
    return stretch is not None and is_within(stretch, low, high)


def are_holes(book, others, thing):
    """Return whether thing, any value, is holes."""
    return _are_in_order(thing) and all([_is_hole(book, others, *row) for row in thing])


def _is_hole(book, others, low, high, circle):
    if not is_reason(shifted_far(book, others, _some_shift(low, high)), circle):
        return False
    return all([is_within(link_stretch(book, others, path), low, high) for path in links_of(circle)])


def _some_shift(low, high):
    for end in (low, high):
        if end is not None:
            return end
    return 0


def is_clock_paper(book, others, some_pieces, some_holes):
    """Return whether these, any values, are pieces and holes in one of which each integer stands."""
    if not are_pieces(book, others, some_pieces) or not are_holes(book, others, some_holes):
        return False
    return merged([(low, high) for low, high, _ in some_pieces + some_holes]) == [(None, None)]
