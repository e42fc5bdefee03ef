"""How strong what is sure is: how many witnesses must be struck until it is no more sure."""

from earlyorlate.aside import aside_for, clashes
from earlyorlate.longer import denying_bound, denying_gap
from earlyorlate.reasons import bare_and_steps, check_fit, circle_in


def strong_gap(book, a, b, g):
    """Return what tells how strongly the gap (a, b, g) is sure, or None if it is not."""
    check_fit(book)
    return _strength(denying_gap(book, a, b, g))


def strong_bound(book, e, side, x):
    """Return what tells how strongly the bound (e, side, x) is sure, or None if it is not."""
    check_fit(book)
    return _strength(denying_bound(book, e, side, x))


def _strength(denying):
    """Return what tells how the book with the contrary can have an explanation, or None if it has one."""
    bare, steps = bare_and_steps(denying)
    if bare is not None:
        return ("always", bare)
    if circle_in(steps) is None:
        return None
    witnesses, reasons = aside_for(denying)
    return ("while", witnesses, reasons)


def enough_gap(book, a, b, g):
    """Return a list of as few witnesses as possible who make the gap (a, b, g) sure, or None if it is not."""
    check_fit(book)
    return _fewest_clashing(denying_gap(book, a, b, g))


def enough_bound(book, e, side, x):
    """Return a list of as few witnesses as possible who make the bound (e, side, x) sure, or None if it is not."""
    check_fit(book)
    return _fewest_clashing(denying_bound(book, e, side, x))


def _fewest_clashing(denying):
    # Something is sure when all others are struck if the book with the contrary has no explanation then.
    sets = clashes(denying)
    if not sets:
        return None
    return list(sets[0])
