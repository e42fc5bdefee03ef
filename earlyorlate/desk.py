"""Desks: books that are written item by item."""

from earlyorlate.answers import answer_to
from earlyorlate.books import Book
from earlyorlate.errors import NoCommand, NoFit, NoIndex, Nothing, TooMany, Wrong
from earlyorlate.items import PARTS
from earlyorlate.reasons import check_fit
from earlyorlate.written import MOST_TOLD, first_refused, item_of


class Desk:
    """Keeps a Book that always has an explanation, and what can be taken back and done again."""

    def __init__(self, events, witnesses):
        self._book = Book(events, witnesses)
        self._past = []
        self._future = []

    @property
    def book(self):
        """The Book as it is now."""
        return self._book

    def tell(self, w, e, x):
        """Put this telling at the end."""
        self._put("tellings", (w, e, x))

    def gap(self, a, b, g):
        """Put this gap at the end."""
        self._put("gaps", (a, b, g))

    def bound(self, e, side, x):
        """Put this bound at the end."""
        self._put("sure", (e, side, x))

    def clause(self, w, kind, v, kind2):
        """Put this clause at the end."""
        self._put("clauses", (w, kind, v, kind2))

    def drop(self, sort, index):
        """Take the item with this index out of the part of this name."""
        if not isinstance(sort, str) or sort not in PARTS:
            raise NoIndex(index)
        self._keep(self._book.without(sort, index))

    def undo(self):
        """Take the last deed back."""
        if not self._past:
            raise Nothing()
        self._future.append(self._book)
        self._book = self._past.pop()

    def redo(self):
        """Do the deed again that was taken back last."""
        if not self._future:
            raise Nothing()
        self._past.append(self._book)
        self._book = self._future.pop()

    def execute(self, line):
        """Do or answer what a line says, and return a string."""
        if not isinstance(line, str):
            raise NoCommand(line)
        told = item_of(line, self._book.events, self._book.witnesses)
        if told is not None:
            part, item = told
            return self._execute_item(part, item)
        if line in ("undo", "redo"):
            return self._execute_back(line)
        answer = answer_to(self._book, line)
        if answer is None:
            raise NoCommand(line)
        return answer

    def copied(self):
        """Return a Desk with the same Book, and the same to be taken back and done again."""
        other = Desk(self._book.events, self._book.witnesses)
        other._book = self._book
        other._past = list(self._past)
        other._future = list(self._future)
        return other

    def _put(self, part, item):
        wrong = first_refused(part, item, self._book.events, self._book.witnesses)
        if wrong is not None:
            raise Wrong(wrong)
        if len(self._book.items_in(part)) >= MOST_TOLD:
            raise TooMany(MOST_TOLD)
        longer = self._book.with_item(part, item)
        check_fit(longer)
        self._keep(longer)

    def _keep(self, book):
        self._past.append(self._book)
        self._future = []
        self._book = book

    def _execute_item(self, part, item):
        try:
            self._put(part, item)
        except NoFit:
            return "no fit"
        return "done"

    def _execute_back(self, line):
        try:
            if line == "undo":
                self.undo()
            else:
                self.redo()
        except Nothing:
            return "nothing"
        return "done"
