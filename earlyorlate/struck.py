"""Striking in plain books: chains, and as few witnesses as possible that meet them."""

from earlyorlate.disjoint import disjoint_paths, paths_from
from earlyorlate.fits import has_fit
from earlyorlate.items import are_ascending
from earlyorlate.plain import check_plain
from earlyorlate.reasons import helped_steps
from earlyorlate.steps import is_step, witnesses_in
from earlyorlate.words import is_tuple


def _starts(steps):
    """Return the ascending list of the witnesses w with a step from (w, "late") to (w, "early")."""
    return [w for w in witnesses_in(steps) if (w, "early") in steps[(w, "late")]]


def _ends(steps):
    """Return the ascending list of the witnesses w with a step from (w, "early") to (w, "late")."""
    return [w for w in witnesses_in(steps) if (w, "late") in steps[(w, "early")]]


def _leads(steps):
    """Return a dict with a list of the others who are early if a witness is."""
    return {w: [v for v, kind in steps[(w, "early")] if v != w and kind == "early"] for w in witnesses_in(steps)}


def _chain_of(steps, witnesses):
    """Return the chain whose early literals are those of these witnesses, in this order."""
    met = [(witnesses[0], "late")] + [(w, "early") for w in witnesses] + [(witnesses[-1], "late")]
    return [steps[one][other] for one, other in zip(met, met[1:])]


def chain(book):
    """Return a chain with as few steps as possible, or None if there is none."""
    check_plain(book)
    steps = helped_steps(book)
    paths = paths_from(_leads(steps), _starts(steps))
    shortest = min([paths[w] for w in _ends(steps) if w in paths], key=len, default=None)
    if shortest is None:
        return None
    return _chain_of(steps, shortest)


def is_chain(book, thing):
    """Return whether thing, any value, is a chain."""
    check_plain(book)
    return _is_chain(book, thing)


def _is_chain(book, thing):
    if not isinstance(thing, list) or len(thing) < 2 or not all([is_step(book, some) for some in thing]):
        return False
    ones = [one for one, _, _ in thing]
    others = [other for _, _, other in thing]
    # Where one step ends and the next one begins, there are the early literals.
    return ones[1:] == others[:-1] and _is_row_of_early(ones[1:]) and _turns(thing[0]) and _turns(thing[-1])


def _is_row_of_early(literals):
    return all([kind == "early" for _, kind in literals]) and len(set(literals)) == len(literals)


def _turns(step):
    """Return whether a step leads from a literal to its contrary."""
    (w, kind), _, (v, other) = step
    return w == v and kind != other


def struck_for(book):
    """Return a tuple of as few witnesses as possible whose strike helps, and as many chains apart from one another."""
    check_plain(book)
    steps = helped_steps(book)
    paths, witnesses = disjoint_paths(_starts(steps), _leads(steps), _ends(steps))
    return (witnesses, [_chain_of(steps, path) for path in paths])


def is_struck(book, thing):
    """Return whether thing, any value, is such a tuple."""
    check_plain(book)
    if not is_tuple(thing, 2) or not isinstance(thing[0], list) or not isinstance(thing[1], list):
        return False
    witnesses, chains = thing
    if not are_ascending(witnesses, book.witnesses) or len(chains) != len(witnesses):
        return False
    # As no two chains share a witness, each needs a struck one of its own: fewer would not do.
    return all([_is_chain(book, some) for some in chains]) and _are_apart(chains) and has_fit(book.struck(witnesses))


def _are_apart(chains):
    # A witness of a chain stands in the literals with which the steps behind the first one begin.
    named = [one[0] for some in chains for one, _, _ in some[1:]]
    return len(set(named)) == len(named)
