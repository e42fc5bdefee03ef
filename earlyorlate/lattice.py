"""Explanations made of others, and the fewest and most early witnesses."""

from earlyorlate.errors import Unequal
from earlyorlate.plain import check_plain
from earlyorlate.reasons import fit_steps
from earlyorlate.steps import sure_in


def _check_sizes(explanations):
    for part in (0, 1):
        sizes = [len(explanation[part]) for explanation in explanations]
        for size in sizes:
            if size != sizes[0]:
                raise Unequal(sizes[0], size)


def median(one, two, three):
    """Return the kinds that two of the three give at least, and the middle ones of the times."""
    _check_sizes((one, two, three))
    # Of three kinds, too, the middle one in the order of Python is one that two of them are.
    kinds = [sorted(some)[1] for some in zip(one[0], two[0], three[0])]
    times = [sorted(some)[1] for some in zip(one[1], two[1], three[1])]
    return (tuple(kinds), tuple(times))


def joined(one, other):
    """Return the kinds that are early where one or other has early, and the greater times."""
    _check_sizes((one, other))
    kinds = [_early_if("early" in pair) for pair in zip(one[0], other[0])]
    return (tuple(kinds), tuple([max(pair) for pair in zip(one[1], other[1])]))


def met(one, other):
    """Return the kinds that are early where both have early, and the lesser times."""
    _check_sizes((one, other))
    kinds = [_early_if("late" not in pair) for pair in zip(one[0], other[0])]
    return (tuple(kinds), tuple([min(pair) for pair in zip(one[1], other[1])]))


def _early_if(truth):
    if truth:
        return "early"
    return "late"


def _sure_literals(book):
    check_plain(book)
    return sure_in(fit_steps(book))


def fewest_early(book):
    """Return the kinds that fit with the fewest early witnesses, of a plain book."""
    known = _sure_literals(book)
    return tuple([_early_if((w, "early") in known) for w in range(book.witnesses)])


def most_early(book):
    """Return the kinds that fit with the most early witnesses, of a plain book."""
    known = _sure_literals(book)
    return tuple([_early_if((w, "late") not in known) for w in range(book.witnesses)])
