"""Steps from a literal to one that follows from it."""

from earlyorlate.items import is_below
from earlyorlate.links import is_link, links_in, witness_of
from earlyorlate.ways import sure_ways
from earlyorlate.words import contrary, is_headed, is_kind, is_tuple, turned_literal


def literals(book):
    """Return the ascending list of the literals of a book."""
    return [(w, kind) for w in range(book.witnesses) for kind in ("early", "late")]


def _is_literal(book, thing):
    return is_tuple(thing, 2) and is_below(thing[0], book.witnesses) and is_kind(thing[1])


def _pairs_by_clause(clause):
    """Return the tuples (one, other) of literals between which a clause makes a step."""
    w, kind, v, other = clause
    return [((w, contrary(kind)), (v, other)), ((v, contrary(other)), (w, kind))]


def _pairs_by_link(book, link):
    """Return the tuples (one, other) of literals between which a link makes a step."""
    start, _, end = link
    w = witness_of(book, start)
    v = witness_of(book, end)
    if w is None and v is None:
        return []
    if w is None:
        return [((v, "late"), (v, "early"))]
    if v is None:
        return [((w, "early"), (w, "late"))]
    return [((w, "early"), (v, "early")), ((v, "late"), (w, "late"))]


def is_step(book, thing):
    """Return whether thing, any value, is a step."""
    if not is_tuple(thing, 3):
        return False
    one, why, other = thing
    if not _is_literal(book, one) or not _is_literal(book, other):
        return False
    if is_headed(why, "clause"):
        index = why[1]
        return is_below(index, len(book.clauses)) and (one, other) in _pairs_by_clause(book.clauses[index])
    if is_headed(why, "link"):
        return is_link(book, why[1]) and (one, other) in _pairs_by_link(book, why[1])
    return False


def steps_in(book, links):
    """Return a dict with a dict for each literal: a step to each literal to which one leads from there.

    The links are one of each floor and each ceiling that have one.
    """
    steps = {one: {} for one in literals(book)}
    for link in links:
        for one, other in _pairs_by_link(book, link):
            steps[one][other] = (one, ("link", link), other)
    for index, clause in enumerate(book.clauses):
        for one, other in _pairs_by_clause(clause):
            steps[one][other] = (one, ("clause", index), other)
    return steps


def _sure_steps(book):
    """Return what steps_in returns, or raise NoFit if there is a ring."""
    return steps_in(book, links_in(book, sure_ways(book)))


def paths_in(steps, one):
    """Return a dict with a list of as few steps as possible to each literal to which some lead from one."""
    paths = {one: []}
    last = [one]
    while last:
        reached = []
        for literal in last:
            for other, taken in steps[literal].items():
                if other not in paths:
                    paths[other] = paths[literal] + [taken]
                    reached.append(other)
        last = reached
    return paths


def witnesses_in(steps):
    """Return the ascending list of the witnesses from whose literals these steps lead."""
    return sorted(set([w for w, _ in steps]))


def steps_among(steps, witnesses):
    """Return those of these steps whose literals are of these witnesses: what is left when all others are struck."""
    kept = {}
    for one, led in steps.items():
        if one[0] in witnesses:
            kept[one] = {other: taken for other, taken in led.items() if other[0] in witnesses}
    return kept


def sure_in(steps):
    """Return the ascending list of the literals that are sure, by the steps of a book that has an explanation."""
    # A literal that cannot be leads to its contrary, as each step has one between the contraries turned about.
    return [one for one in steps if one in paths_in(steps, turned_literal(one))]


def step(book, one, other):
    """Return a step from one literal to another one, or None if there is none."""
    return _sure_steps(book)[one].get(other)


def implied(book, one):
    """Return the ascending list of the literals, other than one, to which a step leads from one."""
    return sorted([other for other in _sure_steps(book)[one] if other != one])


def closure(book, one):
    """Return the ascending list of the literals to which some steps lead, one itself too."""
    return sorted(list(paths_in(_sure_steps(book), one)))


def steps_to(book, one, other):
    """Return a list of as few steps as possible from one literal to another one, or None if none lead there."""
    return paths_in(_sure_steps(book), one).get(other)
