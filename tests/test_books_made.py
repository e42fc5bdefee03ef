"""[22] Books as they are made, with [2], [3] and [4]."""

import unittest

from earlyorlate.books import Book
from earlyorlate.errors import BadItem, TooMany, Wrong
from tests.helper import FAR, KINDS, NEITHER, NO_KINDS, NO_NUMBERS, NO_SIDES, SIDES, check_raised, out_of_range

PARTS = ("tellings", "gaps", "sure", "clauses")

# An item of each part, in a book with three events and two witnesses.
GOOD = ((1, 2, 5), (0, 2, -4), (2, "least", 0), (0, "late", 1, "early"))

# For each place of such an item the values that cannot stand there.
BAD_VALUES = (
    (out_of_range(2), out_of_range(3), NO_NUMBERS),
    (out_of_range(3), out_of_range(3) + [0], NO_NUMBERS),
    (out_of_range(3), NO_SIDES, NO_NUMBERS),
    (out_of_range(2), NO_KINDS, out_of_range(2), NO_KINDS),
)


def made(at, items):
    """The Book with three events and two witnesses that has these items in one part."""
    parts = [(), (), (), ()]
    parts[at] = items
    return Book(3, 2, *parts)


class SizesTest(unittest.TestCase):
    def test_all_sizes(self):
        for events in range(9):
            for witnesses in range(9):
                book = Book(events, witnesses)
                self.assertEqual((book.events, book.witnesses), (events, witnesses))
                self.assertIs(book.events.__class__, int)
                self.assertIs(book.witnesses.__class__, int)

    def test_wrong_sizes(self):
        for size in out_of_range(9):
            check_raised(self, Wrong, {"place": 0}, Book, size, 2)
            check_raised(self, Wrong, {"place": 0}, Book, size, size)
            check_raised(self, Wrong, {"place": 1}, Book, 2, size)

    def test_no_items(self):
        book = Book(3, 2)
        for part in PARTS:
            self.assertEqual(getattr(book, part), ())
            self.assertIsInstance(getattr(book, part), tuple)


class PartsTest(unittest.TestCase):
    def test_lists_and_tuples(self):
        for at, item in enumerate(GOOD):
            for items in ([item], (item,), [item, item], (item, item, item), [], ()):
                book = made(at, items)
                self.assertEqual(getattr(book, PARTS[at]), tuple(items))
                self.assertIsInstance(getattr(book, PARTS[at]), tuple)
                others = [getattr(book, part) for part in PARTS if part != PARTS[at]]
                self.assertEqual(others, [(), (), ()])

    def test_parts_that_are_neither(self):
        for at in range(4):
            for part in NEITHER + [0, 5, "early", range(2)]:
                check_raised(self, Wrong, {"place": at + 2}, made, at, part)

    def test_parts_are_copied(self):
        for at, item in enumerate(GOOD):
            items = [item]
            book = made(at, items)
            items.append(item)
            items[0] = "none"
            self.assertEqual(getattr(book, PARTS[at]), (item,))

    def test_arguments_stay_as_they_are(self):
        parts = [[item, item] for item in GOOD]
        Book(3, 2, *parts)
        self.assertEqual(parts, [[item, item] for item in GOOD])

    def test_parts_that_are_left_out(self):
        for many in range(5):
            book = Book(3, 2, *[[item] for item in GOOD[:many]])
            parts = [getattr(book, part) for part in PARTS]
            self.assertEqual(parts, [(item,) for item in GOOD[:many]] + [()] * (4 - many))

    def test_most_items(self):
        for at, item in enumerate(GOOD):
            self.assertEqual(getattr(made(at, [item] * 24), PARTS[at]), (item,) * 24)
            for many in (25, 26, 100):
                check_raised(self, TooMany, {"limit": 24}, made, at, [item] * many)
                check_raised(self, TooMany, {"limit": 24}, made, at, (item,) * many)


class ItemsTest(unittest.TestCase):
    def check_bad(self, at, item):
        for place in (0, 1, 23):
            items = [GOOD[at]] * 24
            items[place] = item
            check_raised(self, BadItem, {"place": at + 2, "index": place}, made, at, items)
            check_raised(self, BadItem, {"place": at + 2, "index": place}, made, at, tuple(items))
        check_raised(self, BadItem, {"place": at + 2, "index": 0}, made, at, [item])
        check_raised(self, BadItem, {"place": at + 2, "index": 1}, made, at, [GOOD[at], item, item])

    def test_good_items(self):
        good = [
            [(w, e, x) for w in (0, 1) for e in (0, 1, 2) for x in (-FAR, 0, 3, FAR)],
            [(a, b, g) for a in (0, 1, 2) for b in (0, 1, 2) if a != b for g in (-FAR, 0, 7, FAR)],
            [(e, side, x) for e in (0, 1, 2) for side in SIDES for x in (-FAR, -1, 0, FAR)],
            [(w, kind, v, other) for w in (0, 1) for kind in KINDS for v in (0, 1) for other in KINDS],
        ]
        for at, items in enumerate(good):
            self.assertEqual(getattr(made(at, items), PARTS[at]), tuple(items))

    def test_things_that_are_no_tuples(self):
        for at, item in enumerate(GOOD):
            for thing in NEITHER + [0, -1, "early", list(item), [item], [], "late"]:
                self.check_bad(at, thing)

    def test_wrong_lengths(self):
        for at, item in enumerate(GOOD):
            for many in range(len(item)):
                self.check_bad(at, item[:many])
            for more in (0, 1, "early", "least", None):
                self.check_bad(at, item + (more,))
            self.check_bad(at, (item,))
            self.check_bad(at, item + item)

    def test_wrong_values(self):
        for at, item in enumerate(GOOD):
            for place, values in enumerate(BAD_VALUES[at]):
                for value in values:
                    self.check_bad(at, item[:place] + (value,) + item[place + 1:])

    def test_items_of_other_parts(self):
        for at in range(4):
            for other in range(4):
                # A telling can be read as a gap, and a gap as a telling.
                if at != other and {at, other} != {0, 1}:
                    self.check_bad(at, GOOD[other])

    def test_a_gap_from_an_event_to_itself(self):
        for event in range(3):
            for g in (-1, 0, 1):
                self.check_bad(1, (event, event, g))

    def test_no_events_and_no_witnesses(self):
        check_raised(self, BadItem, {"place": 2, "index": 0}, Book, 0, 1, [(0, 0, 5)])
        check_raised(self, BadItem, {"place": 2, "index": 0}, Book, 1, 0, [(0, 0, 5)])
        check_raised(self, BadItem, {"place": 4, "index": 0}, Book, 0, 1, [], [], [(0, "least", 5)])
        check_raised(self, BadItem, {"place": 5, "index": 0}, Book, 1, 0, [], [], [], [(0, "late", 0, "late")])
        check_raised(self, BadItem, {"place": 3, "index": 0}, Book, 1, 1, [], [(0, 1, 5)])

    def test_events_and_witnesses_are_told_apart(self):
        self.assertEqual(Book(1, 3, [(2, 0, 1)]).tellings, ((2, 0, 1),))
        self.assertEqual(Book(3, 1, [(0, 2, 1)]).tellings, ((0, 2, 1),))
        check_raised(self, BadItem, {"place": 2, "index": 0}, Book, 3, 1, [(2, 0, 1)])
        check_raised(self, BadItem, {"place": 2, "index": 0}, Book, 1, 3, [(0, 2, 1)])


class OrderTest(unittest.TestCase):
    def test_wrong_is_the_first_wrong_argument(self):
        bad = [None, True, "", {}, None, 5]
        for first in range(6):
            check_raised(self, Wrong, {"place": first}, Book, *([3, 2, [], (), [], ()][:first] + bad[first:]))

    def test_wrong_is_ahead_of_all(self):
        many = [GOOD[0]] * 25
        for place in range(3, 6):
            parts = [many, ["none"], [GOOD[2]] * 25, ["none"]]
            parts[place - 2] = None
            check_raised(self, Wrong, {"place": place}, Book, 3, 2, *parts)
        check_raised(self, Wrong, {"place": 1}, Book, 3, 9, many)
        check_raised(self, Wrong, {"place": 0}, Book, -1, 9, many)

    def test_too_many_is_ahead_of_a_bad_item_of_the_part(self):
        for at in range(4):
            check_raised(self, TooMany, {"limit": 24}, made, at, ["none"] + [GOOD[at]] * 24)
            check_raised(self, TooMany, {"limit": 24}, made, at, [None] * 25)

    def test_part_by_part(self):
        bad = [["none"], [GOOD[1], None], [GOOD[2], 1], ["none"]]
        many = [[item] * 25 for item in GOOD]
        good = [[item] for item in GOOD]
        for first in range(4):
            for later in range(first + 1, 4):
                parts = good[:]
                parts[first], parts[later] = bad[first], many[later]
                index = (0, 1, 1, 0)[first]
                check_raised(self, BadItem, {"place": first + 2, "index": index}, Book, 3, 2, *parts)
                parts[first], parts[later] = many[first], bad[later]
                check_raised(self, TooMany, {"limit": 24}, Book, 3, 2, *parts)
                parts[first], parts[later] = bad[first], bad[later]
                check_raised(self, BadItem, {"place": first + 2, "index": index}, Book, 3, 2, *parts)


if __name__ == "__main__":
    unittest.main()
