"""Reasons: why a book has no explanation."""

from earlyorlate.links import bounds_link_in, is_link, links_in
from earlyorlate.steps import is_step, paths_in, steps_in
from earlyorlate.ways import all_ways, is_way, ring_in, sum_of
from earlyorlate.words import is_headed


def is_reason(book, thing):
    """Return whether thing, any value, is a reason of a book."""
    if is_headed(thing, "gaps"):
        return _is_ring(book, thing[1])
    if is_headed(thing, "bounds"):
        return is_link(book, thing[1]) and bounds_link_in([thing[1]]) is not None
    if is_headed(thing, "kinds"):
        return _is_circle(book, thing[1])
    return False


def _is_ring(book, thing):
    around = any([is_way(book, event, event, thing) for event in range(book.events)])
    return around and sum_of(book, thing) > 0


def _is_circle(book, thing):
    if not isinstance(thing, tuple) or not all([is_step(book, some) for some in thing]):
        return False
    ones = [one for one, _, _ in thing]
    others = [other for _, _, other in thing]
    # The last step is the one ahead of the first one.
    return ones == others[-1:] + others[:-1] and _has_contraries(ones)


def _has_contraries(literals):
    return any([(w, "early") in literals and (w, "late") in literals for w, _ in literals])


def reason(book):
    """Return a reason, or None if the book has an explanation."""
    ways = all_ways(book)
    around = ring_in(ways)
    if around is not None:
        return ("gaps", around)
    links = links_in(book, ways)
    found = bounds_link_in(links)
    if found is not None:
        return ("bounds", found)
    return _kinds_reason(book, steps_in(book, links))


def _kinds_reason(book, steps):
    for w in range(book.witnesses):
        there = paths_in(steps, (w, "early")).get((w, "late"))
        back = paths_in(steps, (w, "late")).get((w, "early"))
        if there is not None and back is not None:
            return ("kinds", tuple(there + back))
    return None
