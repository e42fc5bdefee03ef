"""Whether a book says all that another one says, and why."""

from earlyorlate.books import check_same_sizes
from earlyorlate.fits import explained, has_fit
from earlyorlate.items import PARTS
from earlyorlate.longer import Longer, as_book, denying_bound, denying_gap
from earlyorlate.reasons import is_reason, reason
from earlyorlate.words import contrary, is_tuple


def _denying_telling(book, w, e, x):
    early = Longer(book, sure=((e, "most", x - 1),), clauses=((w, "early", w, "early"),))
    late = Longer(book, sure=((e, "least", x + 1),), clauses=((w, "late", w, "late"),))
    return [early, late]


def _denying_clause(book, w, kind, v, other):
    one = (w, contrary(kind), w, contrary(kind))
    two = (v, contrary(other), v, contrary(other))
    return [Longer(book, clauses=(one, two))]


def _denying(book, sort, item):
    """Return what contraries returns, but they may have any number of items, and numbers of any size."""
    if sort == "tellings":
        return _denying_telling(book, *item)
    if sort == "gaps":
        return [denying_gap(book, *item)]
    if sort == "sure":
        return [denying_bound(book, *item)]
    return _denying_clause(book, *item)


def contraries(book, sort, item):
    """Return the list of the Books that say book and the contrary of an item of this part."""
    return [as_book(denying) for denying in _denying(book, sort, item)]


def says(book, sort, item):
    """Return whether an item of this part holds in all explanations of a book."""
    return not any([has_fit(denying) for denying in _denying(book, sort, item)])


def _rows_denying(one, other):
    """Return a list with the list of the contraries by one for each item of other."""
    return [_denying(one, sort, item) for sort in PARTS for item in other.items_in(sort)]


def implies(one, other):
    """Return whether each explanation of one is an explanation of other."""
    return parting(one, other) is None


def parting(one, other):
    """Return an explanation of one that is none of other, or None if there is none."""
    check_same_sizes(one, other)
    for row in _rows_denying(one, other):
        for denying in row:
            found = explained(denying)
            if found[0] == "fits":
                return found[1:]
    return None


def alike(one, other):
    """Return whether both have the same explanations."""
    return implies(one, other) and implies(other, one)


def whys(one, other):
    """Return a list with the tuple of the reasons of its contraries for each item of other, or None."""
    check_same_sizes(one, other)
    found = [tuple([reason(denying) for denying in row]) for row in _rows_denying(one, other)]
    if any([None in row for row in found]):
        return None
    return found


def are_whys(one, other, thing):
    """Return whether thing, any value, is whys of other by one."""
    check_same_sizes(one, other)
    rows = _rows_denying(one, other)
    if not isinstance(thing, list) or len(thing) != len(rows):
        return False
    return all([_are_reasons(row, told) for row, told in zip(rows, thing)])


def _are_reasons(books, thing):
    if not is_tuple(thing, len(books)):
        return False
    return all([is_reason(book, some) for book, some in zip(books, thing)])
