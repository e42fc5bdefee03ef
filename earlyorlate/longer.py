"""Books with items more, also where a part is full, and books with other tellings."""

from earlyorlate.books import Book
from earlyorlate.errors import BadItem, TooMany


class Longer(Book):
    """A Book with items more behind the others of their parts.

    Unlike what with_telling and the like return, it may have any number of items, and numbers of any size: what
    is asked of a book that is passed in depends on such a Book.
    """

    def __init__(self, book, tellings=(), gaps=(), sure=(), clauses=()):
        self._events = book.events
        self._witnesses = book.witnesses
        self._tellings = book.tellings + tellings
        self._gaps = book.gaps + gaps
        self._sure = book.sure + sure
        self._clauses = book.clauses + clauses


class Retold(Longer):
    """A Book with these tellings, with numbers of any size, in the place of its own."""

    def __init__(self, book, tellings):
        Longer.__init__(self, book)
        self._tellings = tuple(tellings)


def as_book(longer):
    """Return a plain Book with the same items, or what was passed if its items are too many or their numbers none."""
    try:
        return Book(longer.events, longer.witnesses, longer.tellings, longer.gaps, longer.sure, longer.clauses)
    except (TooMany, BadItem):
        return longer


def denying_gap(book, a, b, g):
    """Return the book with the contrary of the gap (a, b, g) more."""
    return Longer(book, gaps=((b, a, 1 - g),))


def denying_bound(book, e, side, x):
    """Return the book with the contrary of the bound (e, side, x) more."""
    if side == "least":
        return Longer(book, sure=((e, "most", x - 1),))
    return Longer(book, sure=((e, "least", x + 1),))
