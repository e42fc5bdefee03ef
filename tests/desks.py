"""What the document says of desks, word by word, told apart from the program; and what the tests of desks share."""

from earlyorlate.books import Book
from earlyorlate.desk import Desk
from tests.helper import KINDS, SIDES
from tests.oracle import rows_of, some_fit
from tests.saying import PARTS, is_said, items_of, made, with_items

E, L = "early", "late"
GREAT = 10 ** 12
METHODS = {"tellings": "tell", "gaps": "gap", "sure": "bound", "clauses": "clause"}


class Model:
    """A desk that keeps a book of its own, and the books ahead of it and behind it."""

    def __init__(self, events, witnesses):
        self.book, self.past, self.future = Book(events, witnesses), [], []

    def keep(self, book):
        self.past, self.future, self.book = self.past + [self.book], [], book
        return "done"

    def put(self, sort, item):
        """Put an item that is as described at the end."""
        if len(getattr(self.book, sort)) == 20:
            return "too many"
        longer = with_items(self.book, (sort, item))
        return self.keep(longer) if some_fit(longer) else "no fit"

    def drop(self, sort, index):
        items = items_of(self.book)
        places = [(some, at) for some in PARTS for at in range(len(getattr(self.book, some)))]
        if (sort, index) not in places:
            return "no index"
        out = places.index((sort, index))
        return self.keep(made(self.book, items[:out] + items[out + 1:]))

    def undo(self):
        if not self.past:
            return "nothing"
        self.past, self.future, self.book = self.past[:-1], self.future + [self.book], self.past[-1]
        return "done"

    def redo(self):
        if not self.future:
            return "nothing"
        self.past, self.future, self.book = self.past + [self.book], self.future[:-1], self.future[-1]
        return "done"

    def copied(self):
        other = Model(0, 0)
        other.book, other.past, other.future = self.book, list(self.past), list(self.future)
        return other

    def kind(self, w):
        kinds = sorted({row[w] for row in rows_of(self.book)})
        return kinds[0] if len(kinds) == 1 else "open"

    def order(self, a, b):
        if is_said(self.book, "gaps", (a, b, 1)):
            return "before"
        return "after" if is_said(self.book, "gaps", (b, a, 1)) else "open"


def drawn_item(chance, events, witnesses, reach=6):
    """A part and an item of it that is as described, or None if there is none."""
    sorts = ["clauses"] * (witnesses > 0) + ["sure"] * (events > 0) + ["gaps"] * (events > 1)
    sorts += ["tellings"] * 3 * (events > 0 and witnesses > 0)
    if not sorts:
        return None
    sort = chance.choice(sorts)
    e, w, v = [chance.randrange(many) if many else None for many in (events, witnesses, witnesses)]
    if sort == "tellings":
        return sort, (w, e, chance.randint(-reach, reach))
    if sort == "gaps":
        return sort, tuple(chance.sample(range(events), 2)) + (chance.randint(-2 * reach, 1),)
    if sort == "sure":
        return sort, (e, chance.choice(SIDES), chance.randint(-reach, reach))
    return sort, (w, chance.choice(KINDS), v, chance.choice(KINDS))


def desk_of(book):
    """A Desk with the items of a book, that has an explanation."""
    desk = Desk(book.events, book.witnesses)
    for sort, item in items_of(book):
        getattr(desk, METHODS[sort])(*item)
    return desk
