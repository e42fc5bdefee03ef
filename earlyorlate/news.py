"""What a further telling would leave of the kinds of a witness."""

from earlyorlate.ends import ceilings_with, floors_with, high_end, low_end
from earlyorlate.fits import has_fit
from earlyorlate.longer import Longer
from earlyorlate.reasons import check_fit, fit_steps
from earlyorlate.rows import fitting_rows, sure_rows
from earlyorlate.steps import sure_in
from earlyorlate.ways import all_ways


def word_of(book, w, e, x):
    """Return which kinds w has with the telling (w, e, x) more: "both", "early", "late" or "none"."""
    check_fit(book)
    kinds = [row[w] for row in fitting_rows(Longer(book, tellings=((w, e, x),)))]
    return _word("early" in kinds, "late" in kinds)


def _word(early, late):
    if early and late:
        return "both"
    if early:
        return "early"
    if late:
        return "late"
    return "none"


def late_from(book, w, e):
    """Return ("from", x) with the least number with which w can still be late, ("always",) or ("never",)."""
    ways = all_ways(book)
    lows = [low_end(ways, floors_with(book, row), e) for row in sure_rows(book) if row[w] == "late"]
    if not lows:
        return ("never",)
    if None in lows:
        return ("always",)
    return ("from", min(lows))


def early_to(book, w, e):
    """Return ("to", x) with the greatest number with which w can still be early, ("always",) or ("never",)."""
    ways = all_ways(book)
    highs = [high_end(ways, ceilings_with(book, row), e) for row in sure_rows(book) if row[w] == "early"]
    if not highs:
        return ("never",)
    if None in highs:
        return ("always",)
    return ("to", max(highs))


def news_of(book, w, e):
    """Return the ascending list of the tuples (low, high, word) that tell the words of all numbers."""
    late = late_from(book, w, e)
    early = early_to(book, w, e)
    # Each of these begins a stretch: there, and nowhere else, one of the two answers changes.
    begun = []
    if late[0] == "from":
        begun.append(late[1])
    if early[0] == "to":
        begun.append(early[1] + 1)
    lows = [None] + sorted(set(begun))
    highs = [low - 1 for low in lows[1:]] + [None]
    return [(low, high, _word_between(late, early, low, high)) for low, high in zip(lows, highs)]


def _word_between(late, early, low, high):
    can_be_late = late[0] == "always" or late[0] == "from" and low is not None and low >= late[1]
    can_be_early = early[0] == "always" or early[0] == "to" and high is not None and high <= early[1]
    return _word(can_be_early, can_be_late)


def settles(book, w, e, x):
    """Return the ascending list of the literals that the telling (w, e, x) makes sure, or None if it cannot be."""
    known = sure_in(fit_steps(book))
    told = Longer(book, tellings=((w, e, x),))
    if not has_fit(told):
        return None
    return [one for one in sure_in(fit_steps(told)) if one not in known]
