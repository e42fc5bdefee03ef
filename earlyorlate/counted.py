"""How many kinds fit, and the row of them."""

from earlyorlate.errors import NoIndex, NoKinds
from earlyorlate.items import is_below
from earlyorlate.rows import fitting_rows
from earlyorlate.words import are_kinds


def count_fits(book):
    """Return how many kinds fit."""
    return len(fitting_rows(book))


def early_counts(book):
    """Return the tuple that tells for each witness in how many of the kinds that fit it is early."""
    rows = fitting_rows(book)
    return tuple([len([row for row in rows if row[w] == "early"]) for w in range(book.witnesses)])


class Fits:
    """The row of the kinds that fit a book, ascending."""

    def __init__(self, book):
        self._source = book
        self._rows = fitting_rows(book)
        self._numbers = {row: index for index, row in enumerate(self._rows)}

    @property
    def source(self):
        """The book."""
        return self._source

    def __len__(self):
        return len(self._rows)

    def __iter__(self):
        return iter(self._rows)

    def __contains__(self, x):
        return are_kinds(x, self._source.witnesses) and x in self._numbers

    def __getitem__(self, at):
        if not is_below(at, len(self._rows)):
            raise NoIndex(at)
        return self._rows[at]

    def number_of(self, thing):
        """Return the index of kinds that fit."""
        if thing not in self:
            raise NoKinds(thing)
        return self._numbers[thing]
