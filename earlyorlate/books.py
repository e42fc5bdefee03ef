"""Books: what witnesses told, and what is sure."""

from earlyorlate.errors import BadItem, NoIndex, TooMany, Unequal, Wrong
from earlyorlate.items import PARTS, first_wrong, is_below, is_item, is_plain_clause, turned_side
from earlyorlate.words import contrary

MOST_EVENTS = 8
MOST_WITNESSES = 8
MOST_ITEMS = 24


def _check_arguments(events, witnesses, parts):
    if not is_below(events, MOST_EVENTS + 1):
        raise Wrong(0)
    if not is_below(witnesses, MOST_WITNESSES + 1):
        raise Wrong(1)
    for place, items in enumerate(parts, start=2):
        if not isinstance(items, (list, tuple)):
            raise Wrong(place)


def _check_items(place, part, items, events, witnesses):
    if len(items) > MOST_ITEMS:
        raise TooMany(MOST_ITEMS)
    for index, item in enumerate(items):
        if not is_item(part, item, events, witnesses):
            raise BadItem(place, index)


def check_same_sizes(one, other):
    """Raise Unequal if two Books have not as many events and witnesses."""
    sizes = (one.events, one.witnesses)
    other_sizes = (other.events, other.witnesses)
    if sizes != other_sizes:
        raise Unequal(sizes, other_sizes)


class Book:
    """A number of events, a number of witnesses, and four parts. It never changes."""

    def __init__(self, events, witnesses, tellings=(), gaps=(), sure=(), clauses=()):
        parts = (tellings, gaps, sure, clauses)
        _check_arguments(events, witnesses, parts)
        for place, (part, items) in enumerate(zip(PARTS, parts), start=2):
            _check_items(place, part, items, events, witnesses)
        self._events = events
        self._witnesses = witnesses
        self._tellings = tuple(tellings)
        self._gaps = tuple(gaps)
        self._sure = tuple(sure)
        self._clauses = tuple(clauses)

    @property
    def events(self):
        """How many events there are."""
        return self._events

    @property
    def witnesses(self):
        """How many witnesses there are."""
        return self._witnesses

    @property
    def tellings(self):
        """The tuple of the tellings (w, e, x)."""
        return self._tellings

    @property
    def gaps(self):
        """The tuple of the gaps (a, b, g)."""
        return self._gaps

    @property
    def sure(self):
        """The tuple of the bounds (e, side, x)."""
        return self._sure

    @property
    def clauses(self):
        """The tuple of the clauses (w, kind, v, other)."""
        return self._clauses

    def __eq__(self, other):
        return (
            isinstance(other, Book)
            and self._events == other._events
            and self._witnesses == other._witnesses
            and self._tellings == other._tellings
            and self._gaps == other._gaps
            and self._sure == other._sure
            and self._clauses == other._clauses
        )

    def is_plain(self):
        """Return whether the two literals of each clause have one witness or unlike kinds."""
        return all([is_plain_clause(clause) for clause in self._clauses])

    def told_by(self, w):
        """Return the ascending list of the indexes of the tellings of a witness."""
        return [index for index, telling in enumerate(self._tellings) if telling[0] == w]

    def with_telling(self, w, e, x):
        """Return the Book with this telling as the last one."""
        return self.with_item("tellings", (w, e, x))

    def with_gap(self, a, b, g):
        """Return the Book with this gap as the last one."""
        return self.with_item("gaps", (a, b, g))

    def with_sure(self, e, side, x):
        """Return the Book with this bound as the last one."""
        return self.with_item("sure", (e, side, x))

    def with_clause(self, w, kind, v, other):
        """Return the Book with this clause as the last one."""
        return self.with_item("clauses", (w, kind, v, other))

    def with_known(self, w, kind):
        """Return the Book with the clause, as the last one, that w is of this kind."""
        # A wrong witness or kind is found at its first place, which is that of the argument here.
        return self.with_item("clauses", (w, kind, w, kind))

    def with_item(self, part, item):
        """Return the Book with this tuple, of as many values as an item has, as the last item of this part."""
        wrong = first_wrong(part, item, self._events, self._witnesses)
        if wrong is not None:
            raise Wrong(wrong)
        parts = self._parts_by_name()
        parts[part] = parts[part] + (item,)
        # A part that was full is too long now, which is what the new Book finds first.
        return self._with_parts(parts)

    def items_in(self, part):
        """Return the part of this name."""
        return self._parts_by_name()[part]

    def without(self, part, index):
        """Return the Book without the item with this index in the part of this name."""
        parts = self._parts_by_name()
        items = parts[part]
        if not is_below(index, len(items)):
            raise NoIndex(index)
        parts[part] = items[:index] + items[index + 1:]
        return self._with_parts(parts)

    def struck(self, witnesses):
        """Return the Book without the tellings of these witnesses and the clauses that name them."""
        parts = self._parts_by_name()
        parts["tellings"] = [item for item in self._tellings if item[0] not in witnesses]
        parts["clauses"] = [
            item for item in self._clauses if item[0] not in witnesses and item[2] not in witnesses
        ]
        return self._with_parts(parts)

    def moved(self, by):
        """Return the Book with by added to all times."""
        parts = self._parts_by_name()
        parts["tellings"] = [(w, e, x + by) for w, e, x in self._tellings]
        parts["sure"] = [(e, side, x + by) for e, side, x in self._sure]
        return self._with_parts(parts)

    def turned(self):
        """Return the Book with all times turned about."""
        tellings = [(w, e, -x) for w, e, x in self._tellings]
        gaps = [(b, a, g) for a, b, g in self._gaps]
        sure = [(e, turned_side(side), -x) for e, side, x in self._sure]
        clauses = [(w, contrary(kind), v, contrary(other)) for w, kind, v, other in self._clauses]
        return Book(self._events, self._witnesses, tellings, gaps, sure, clauses)

    def renamed(self, events, witnesses):
        """Return the Book in which e is called events[e], and w is called witnesses[w]."""
        tellings = [(witnesses[w], events[e], x) for w, e, x in self._tellings]
        gaps = [(events[a], events[b], g) for a, b, g in self._gaps]
        sure = [(events[e], side, x) for e, side, x in self._sure]
        clauses = [(witnesses[w], kind, witnesses[v], other) for w, kind, v, other in self._clauses]
        return Book(self._events, self._witnesses, tellings, gaps, sure, clauses)

    def both(self, other):
        """Return the Book with the items of this one and, behind them, those of the other one."""
        check_same_sizes(self, other)
        return Book(
            self._events,
            self._witnesses,
            self._tellings + other.tellings,
            self._gaps + other.gaps,
            self._sure + other.sure,
            self._clauses + other.clauses,
        )

    def _parts_by_name(self):
        return {
            "tellings": self._tellings,
            "gaps": self._gaps,
            "sure": self._sure,
            "clauses": self._clauses,
        }

    def _with_parts(self, parts):
        return Book(
            self._events,
            self._witnesses,
            parts["tellings"],
            parts["gaps"],
            parts["sure"],
            parts["clauses"],
        )
