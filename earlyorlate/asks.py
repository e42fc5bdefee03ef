"""Asking witnesses of what kind they are until all kinds are known."""

from earlyorlate.items import is_below
from earlyorlate.rows import sure_rows
from earlyorlate.words import are_kinds, is_headed, is_integer, is_tuple


def _agree(row, stand):
    return all([told is None or told == kind for told, kind in zip(stand, row)])


def agreeing(book, stand):
    """Return the ascending list of all kinds that fit and agree with a stand."""
    return [row for row in sure_rows(book) if _agree(row, stand)]


def _early_and_late(rows, w):
    """Return the lists of those of these kinds in which a witness is early, and of those in which it is late."""
    return ([row for row in rows if row[w] == "early"], [row for row in rows if row[w] == "late"])


def _open_counts(book, stand):
    """Return an ascending list with a tuple for each open witness: how many kinds it can leave, and the witness."""
    rows = agreeing(book, stand)
    found = []
    for w in range(book.witnesses):
        early, late = _early_and_late(rows, w)
        if early and late:
            found.append((max(len(early), len(late)), w))
    return found


def open_witnesses(book, stand):
    """Return the ascending list of the witnesses who are early in some kinds that agree, and late in others."""
    return [w for _, w in _open_counts(book, stand)]


def best_ask(book, stand):
    """Return the open witness who leaves the fewest kinds at worst, of several the least, or None if it is settled."""
    _, best = min(_open_counts(book, stand), default=(0, None))
    return best


def _told(stand, w, kind):
    return stand[:w] + (kind,) + stand[w + 1:]


def _stands(rows, witnesses):
    """Return the list of all stands with which some of these kinds agree, those that tell more ahead of others."""
    found = {row: True for row in rows}
    for w in range(witnesses):
        for stand in list(found):
            found[_told(stand, w, None)] = True
    return sorted(list(found), key=_untold)


def _untold(stand):
    return stand.count(None)


def _asks(table, stand):
    """Return a list with a tuple for each open witness: how many questions are left then, the witness, two stands."""
    found = []
    for w in range(len(stand)):
        early, late = _told(stand, w, "early"), _told(stand, w, "late")
        if stand[w] is None and early in table and late in table:
            found.append((max(table[early], table[late]), w, early, late))
    return found


def _table(rows, witnesses):
    """Return a dict from all stands that can be to the least number of questions that are enough from there."""
    table = {}
    for stand in _stands(rows, witnesses):
        # A settled stand has no open witnesses, so it gets 0.
        table[stand] = 1 + min([left for left, _, _, _ in _asks(table, stand)], default=-1)
    return table


def ask_table(book):
    """Return the dict from all stands that can be to how many questions are needed from there."""
    return _table(sure_rows(book), book.witnesses)


def is_ask_table(book, thing):
    """Return whether thing, any value, is the table of a book."""
    table = ask_table(book)
    if not isinstance(thing, dict) or len(thing) != len(table):
        return False
    return all([stand in thing and is_integer(thing[stand]) and thing[stand] == left for stand, left in table.items()])


def questions(book):
    """Return how many questions are needed on the longest way of a plan."""
    return ask_table(book)[(None,) * book.witnesses]


def plan(book):
    """Return a plan for all kinds that fit with as few questions on its longest way as can be."""
    rows = sure_rows(book)
    return _plan_from(rows, _table(rows, book.witnesses), (None,) * book.witnesses)


def _plan_from(rows, table, stand):
    asks = _asks(table, stand)
    if not asks:
        return ("known", [row for row in rows if _agree(row, stand)][0])
    _, w, early, late = min(asks)
    return (w, _plan_from(rows, table, early), _plan_from(rows, table, late))


def is_plan(book, thing):
    """Return whether thing, any value, is a plan for all kinds that fit."""
    return _is_plan_for(sure_rows(book), book.witnesses, thing)


def _is_plan_for(rows, witnesses, thing):
    if len(rows) == 1:
        return is_headed(thing, "known") and are_kinds(thing[1], witnesses) and thing[1] == rows[0]
    if not is_tuple(thing, 3) or not is_below(thing[0], witnesses):
        return False
    w, one, other = thing
    early, late = _early_and_late(rows, w)
    if not early or not late:
        return False
    return _is_plan_for(early, witnesses, one) and _is_plan_for(late, witnesses, other)


def depth(plan):
    """Return the number of questions on the longest way of a plan."""
    if plan[0] == "known":
        return 0
    _, one, other = plan
    return 1 + max(depth(one), depth(other))
