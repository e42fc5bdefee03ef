"""Which kinds are sure."""

from earlyorlate.longer import Longer
from earlyorlate.reasons import check_fit, fit_steps, reason
from earlyorlate.rows import sure_rows
from earlyorlate.steps import sure_in
from earlyorlate.words import contrary


def kinds_of(book, w):
    """Return the ascending list of the kinds that w has in some explanation."""
    return sorted(set([row[w] for row in sure_rows(book)]))


def sure_kind(book, w):
    """Return the only kind that w has, or None if there are two."""
    kinds = kinds_of(book, w)
    if len(kinds) == 1:
        return kinds[0]
    return None


def sure_kinds(book):
    """Return the ascending list of the literals that are sure."""
    return sure_in(fit_steps(book))


def why_kind(book, w, kind):
    """Return a reason of the book with w known to be of the contrary kind, or None if kind is not sure."""
    check_fit(book)
    other = contrary(kind)
    return reason(Longer(book, clauses=((w, other, w, other),)))


def groups(book):
    """Return the list of the tuples (ones, others) of witnesses who always have one kind, and the other one."""
    rows = sure_rows(book)
    found = []
    placed = []
    for w in range(book.witnesses):
        if w not in placed:
            ones = [v for v in range(w, book.witnesses) if all([row[v] == row[w] for row in rows])]
            others = [v for v in range(w, book.witnesses) if all([row[v] != row[w] for row in rows])]
            found.append((ones, others))
            placed = placed + ones + others
    return found
