"""All kinds that fit a book."""

from earlyorlate.reasons import bare_and_steps, fit_steps


def _with_one_more(rows):
    return [row + (kind,) for row in rows for kind in ("early", "late")]


def all_kinds(witnesses):
    """Return the ascending list of all kinds of so many witnesses."""
    rows = [()]
    for _ in range(witnesses):
        rows = _with_one_more(rows)
    return rows


def _rows_in(steps, witnesses):
    """Return the ascending list of the kinds from none of whose literals a step leads to a contrary one."""
    rows = [()]
    for w in range(witnesses):
        rows = [row for row in _with_one_more(rows) if _can_stand(steps, row, w)]
    return rows


def _can_stand(steps, row, w):
    # What leads to a witness behind w is seen there: a step between the contraries leads back from it.
    return all([row[v] == kind for v, kind in steps[(w, row[w])] if v <= w])


def fitting_rows(book):
    """Return the ascending list of the kinds that fit."""
    found, steps = bare_and_steps(book)
    if found is not None:
        return []
    return _rows_in(steps, book.witnesses)


def sure_rows(book):
    """Return the ascending list of the kinds that fit, or raise NoFit if there are none."""
    return _rows_in(fit_steps(book), book.witnesses)
