"""Striking in any books: witnesses set aside, clashes and repairs."""

from earlyorlate.fits import has_fit
from earlyorlate.items import are_ascending
from earlyorlate.reasons import bare_and_steps, circle_in, helped_steps, is_reason
from earlyorlate.steps import steps_among
from earlyorlate.words import is_tuple


def witnesses_of(book, reason):
    """Return the ascending list of the witnesses that a reason of the book names."""
    word, what = reason
    if word != "kinds":
        return []
    return sorted(set([w for one, _, other in what for w, _ in (one, other)]))


def _witness_sets(book):
    """Return the list of all sets of witnesses, those of fewer first, those of equally many ascending."""
    last = [()]
    found = last
    while last:
        last = [some + (w,) for some in last for w in _witnesses_behind(book, some)]
        found = found + last
    return found


def _witnesses_behind(book, some):
    return [w for w in range(book.witnesses) if w > max(some, default=-1)]


def _others(book, witnesses):
    return tuple([w for w in range(book.witnesses) if w not in witnesses])


def _holds_one_of(some, sets):
    return any([all([w in some for w in least]) for least in sets])


def _meets_all(some, sets):
    return all([any([w in some for w in other]) for other in sets])


def _first_to_meet(book, sets):
    """Return the first set of witnesses that has one of each of these, or None if there is none."""
    for some in _witness_sets(book):
        if _meets_all(some, sets):
            return some
    return None


def aside_for(book):
    """Return a tuple of as few witnesses as possible whose strike helps, and reasons that no fewer meet."""
    steps = helped_steps(book)
    reasons = []
    witnesses = ()
    found = circle_in(steps)
    # Those who are struck meet all reasons so far, and no fewer do; so in the end no fewer help.
    while found is not None:
        reasons.append(found)
        witnesses = _first_to_meet(book, [witnesses_of(book, some) for some in reasons])
        found = circle_in(steps_among(steps, _others(book, witnesses)))
    return (list(witnesses), reasons)


def is_aside(book, thing):
    """Return whether thing, any value, is such a tuple."""
    if not is_tuple(thing, 2) or not isinstance(thing[0], list) or not isinstance(thing[1], list):
        return False
    witnesses, reasons = thing
    if not are_ascending(witnesses, book.witnesses) or not all([is_reason(book, some) for some in reasons]):
        return False
    fewest = _first_to_meet(book, [witnesses_of(book, some) for some in reasons])
    return fewest is not None and len(fewest) == len(witnesses) and has_fit(book.struck(witnesses))


def _is_clashing(steps, some):
    """Return whether there is no explanation when all but these are struck, by the steps of the book."""
    return circle_in(steps_among(steps, some)) is not None


def clashes(book):
    """Return the list of all least sets of witnesses such that striking all others does not help."""
    bare, steps = bare_and_steps(book)
    if bare is not None:
        return [()]
    found = []
    for some in _witness_sets(book):
        if not _holds_one_of(some, found) and _is_clashing(steps, some):
            found.append(some)
    return found


def repairs(book):
    """Return the list of all least sets of witnesses whose strike helps."""
    # A strike helps if it leaves no clash whole.
    sets = clashes(book)
    found = []
    for some in _witness_sets(book):
        if not _holds_one_of(some, found) and _meets_all(some, sets):
            found.append(some)
    return found


def _is_witness_set(book, thing):
    return isinstance(thing, tuple) and are_ascending(thing, book.witnesses)


def is_clash(book, thing):
    """Return whether thing, any value, is a least set of witnesses such that striking all others does not help."""
    if not _is_witness_set(book, thing):
        return False
    bare, steps = bare_and_steps(book)
    if bare is not None:
        return len(thing) == 0
    less = [thing[:at] + thing[at + 1:] for at in range(len(thing))]
    return _is_clashing(steps, thing) and not any([_is_clashing(steps, some) for some in less])


def is_repair(book, thing):
    """Return whether thing, any value, is a least set of witnesses whose strike helps."""
    if not _is_witness_set(book, thing):
        return False
    bare, steps = bare_and_steps(book)
    if bare is not None:
        return False
    left = _others(book, thing)
    return not _is_clashing(steps, left) and all([_is_clashing(steps, left + (w,)) for w in thing])
