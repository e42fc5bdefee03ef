"""Books with items more, also where a part is full."""

from earlyorlate.books import Book


class Longer(Book):
    """A Book with items more behind the others of their parts.

    Unlike what with_telling and the like return, it may have any number of items, and numbers of any size: what
    is asked of a book that is passed in depends on such a Book, which itself is never returned.
    """

    def __init__(self, book, tellings=(), gaps=(), sure=(), clauses=()):
        self._events = book.events
        self._witnesses = book.witnesses
        self._tellings = book.tellings + tellings
        self._gaps = book.gaps + gaps
        self._sure = book.sure + sure
        self._clauses = book.clauses + clauses
