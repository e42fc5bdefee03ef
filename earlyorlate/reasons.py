"""Reasons: why a book has no explanation."""

from earlyorlate.errors import NoFit, NoHelp
from earlyorlate.links import bounds_link_in, is_link, links_in
from earlyorlate.steps import is_step, paths_in, steps_in, witnesses_in
from earlyorlate.ways import all_ways, is_way, ring_in, sum_of
from earlyorlate.words import is_headed


def is_reason(book, thing):
    """Return whether thing, any value, is a reason of a book."""
    if is_headed(thing, "gaps"):
        return _is_ring(book, thing[1])
    if is_headed(thing, "bounds"):
        return is_link(book, thing[1]) and bounds_link_in([thing[1]]) is not None
    if is_headed(thing, "kinds"):
        return _is_circle(book, thing[1])
    return False


def _is_ring(book, thing):
    around = any([is_way(book, event, event, thing) for event in range(book.events)])
    return around and sum_of(book, thing) > 0


def _is_circle(book, thing):
    if not isinstance(thing, tuple) or not all([is_step(book, some) for some in thing]):
        return False
    ones = [one for one, _, _ in thing]
    others = [other for _, _, other in thing]
    # The last step is the one ahead of the first one.
    return ones == others[-1:] + others[:-1] and _has_contraries(ones)


def _has_contraries(literals):
    return any([(w, "early") in literals and (w, "late") in literals for w, _ in literals])


def links_of(reason):
    """Return a list of the links of a reason."""
    word, what = reason
    if word == "bounds":
        return [what]
    if word == "kinds":
        return [why[1] for _, why, _ in what if why[0] == "link"]
    return []


def bare_and_steps(book):
    """Return a tuple (reason, steps): a reason that names nobody, or None and what steps_in returns."""
    ways = all_ways(book)
    around = ring_in(ways)
    if around is not None:
        return (("gaps", around), {})
    links = links_in(book, ways)
    found = bounds_link_in(links)
    if found is not None:
        return (("bounds", found), {})
    return (None, steps_in(book, links))


def circle_in(steps):
    """Return a reason ("kinds", ..) of some of these steps, or None if there is none."""
    for w in witnesses_in(steps):
        there = paths_in(steps, (w, "early")).get((w, "late"))
        if there is not None:
            back = paths_in(steps, (w, "late")).get((w, "early"))
            if back is not None:
                return ("kinds", tuple(there + back))
    return None


def reason(book):
    """Return a reason, or None if the book has an explanation."""
    found, steps = bare_and_steps(book)
    if found is not None:
        return found
    return circle_in(steps)


def fit_steps(book):
    """Return what steps_in returns, or raise NoFit if the book has no explanation."""
    found, steps = bare_and_steps(book)
    if found is None:
        found = circle_in(steps)
    if found is not None:
        raise NoFit(found)
    return steps


def check_fit(book):
    """Raise NoFit if the book has no explanation."""
    fit_steps(book)


def helped_steps(book):
    """Return what steps_in returns, or raise NoHelp if there is a reason that names nobody."""
    found, steps = bare_and_steps(book)
    if found is not None:
        raise NoHelp(found)
    return steps
