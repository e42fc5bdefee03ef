"""[102] desk: deeds by methods, with [2], [3] and [4]."""

import unittest
from random import Random

from earlyorlate.books import Book
from earlyorlate.desk import Desk
from earlyorlate.errors import NoFit, NoIndex, Nothing, TooMany, Wrong
from earlyorlate.reasons import is_reason
from tests.checks import check_quick
from tests.desks import GREAT, METHODS, Model, desk_of, drawn_item
from tests.helper import NEITHER, NO_KINDS, NO_NUMBERS, NO_SIDES, SameAsAll, check_raised, out_of_range
from tests.oracle import is_true_reason, planted_books, some_fit
from tests.saying import PARTS, items_of, made, with_items

E, L = "early", "late"
NO_TOLD = NO_NUMBERS + [GREAT + 1, -GREAT - 1, 10 ** 15, -10 ** 15]


def full_desk(sort):
    """A Desk of three events and witnesses with twenty items in this part, and an item of it with which nothing fits."""
    item, wrong = {"tellings": ((0, 0, 5), (0, 0, 7)), "gaps": ((0, 1, 2), (1, 0, -1)),
                   "sure": ((0, "least", 5), (0, "most", 4)), "clauses": ((0, E, 0, E), (0, L, 0, L))}[sort]
    desk = Desk(3, 3)
    if sort == "tellings":
        desk.bound(0, "least", 6)
        desk.bound(0, "most", 6)
    for _ in range(20):
        getattr(desk, METHODS[sort])(*item)
    return desk, wrong


class DeskTest(unittest.TestCase):
    def check_refused(self, desk, error, fields, name, *arguments):
        """Check that a deed raises this error, and changes nothing."""
        book = desk.book
        check_raised(self, error, fields, getattr(desk, name), *arguments)
        self.assertEqual(desk.book, book)

    def check_no_fit(self, desk, sort, item):
        longer = with_items(desk.book, (sort, item))
        book = desk.book
        with self.assertRaises(NoFit) as caught:
            getattr(desk, METHODS[sort])(*item)
        self.assertIs(caught.exception.__class__, NoFit)
        self.assertEqual(list(vars(caught.exception)), ["reason"])
        self.assertTrue(is_true_reason(longer, caught.exception.reason), caught.exception.reason)
        self.assertIs(is_reason(longer, caught.exception.reason), True)
        self.assertEqual(desk.book, book)


class MadeTest(DeskTest):
    def test_sizes(self):
        for events in (0, 1, 8):
            for witnesses in (0, 1, 8):
                self.assertEqual(Desk(events, witnesses).book, Book(events, witnesses))
                self.assertIs(Desk(events, witnesses).book.__class__, Book)

    def test_wrong_sizes(self):
        for value in out_of_range(9):
            check_raised(self, Wrong, {"place": 0}, Desk, value, 0)
            check_raised(self, Wrong, {"place": 0}, Desk, value, value)
            check_raised(self, Wrong, {"place": 1}, Desk, 0, value)
            check_raised(self, Wrong, {"place": 1}, Desk, 8, value)


class PutTest(DeskTest):
    def test_each_deed(self):
        desk = Desk(3, 2)
        for sort, item in (("tellings", (0, 2, 5)), ("sure", (1, "most", 7)), ("clauses", (0, E, 1, L)), ("gaps", (0, 1, -2)),
                           ("tellings", (1, 0, GREAT)), ("gaps", (2, 0, -GREAT)), ("sure", (0, "least", -GREAT)),
                           ("clauses", (1, L, 1, L)), ("tellings", (1, 0, 5)), ("sure", (1, "most", 7))):
            book = desk.book
            self.assertIsNone(getattr(desk, METHODS[sort])(*item))
            self.assertEqual(desk.book, with_items(book, (sort, item)))
        self.assertEqual(desk.book, Book(3, 2, [(0, 2, 5), (1, 0, GREAT), (1, 0, 5)], [(0, 1, -2), (2, 0, -GREAT)],
                                         [(1, "most", 7), (0, "least", -GREAT), (1, "most", 7)], [(0, E, 1, L), (1, L, 1, L)]))

    def test_wrong_ahead_of_all_else(self):
        bad = {"tellings": ((2, 1, -8), (out_of_range(3), out_of_range(3), NO_TOLD)),
               "gaps": ((2, 1, 8), (out_of_range(3), out_of_range(3) + [2], NO_TOLD)),
               "sure": ((2, "least", 8), (out_of_range(3), NO_SIDES, NO_TOLD)),
               "clauses": ((2, L, 0, E), (out_of_range(3), NO_KINDS, out_of_range(3), NO_KINDS))}
        for sort, (good, bad_values) in bad.items():
            full, _ = full_desk(sort)
            for desk in (Desk(3, 3), full):
                for place, values in enumerate(bad_values):
                    for value in values:
                        more = good[:place] + (value,) + good[place + 1:]
                        self.check_refused(desk, Wrong, {"place": place}, METHODS[sort], *more)
                        worse = good[:place] + (value,) + (None,) * (len(good) - place - 1)
                        self.check_refused(desk, Wrong, {"place": place}, METHODS[sort], *worse)

    def test_nothing_to_put_into_desks_without_events_or_witnesses(self):
        for desk in (Desk(0, 0), Desk(0, 8), Desk(8, 0)):
            self.check_refused(desk, Wrong, {"place": 1 if desk.book.witnesses else 0}, "tell", 0, 0, 5)
        self.check_refused(Desk(0, 8), Wrong, {"place": 0}, "bound", 0, "least", 5)
        self.check_refused(Desk(1, 8), Wrong, {"place": 1}, "gap", 0, 0, 5)
        self.check_refused(Desk(8, 0), Wrong, {"place": 0}, "clause", 0, E, 0, E)

    def test_twenty_items_ahead_of_no_fit(self):
        for sort in PARTS:
            desk, wrong = full_desk(sort)
            good = getattr(desk.book, sort)[0]
            for item in (good, wrong):
                self.check_refused(desk, TooMany, {"limit": 20}, METHODS[sort], *item)
            self.assertFalse(some_fit(with_items(desk.book, (sort, wrong))))
            self.assertIsNone(desk.drop(sort, 19))
            self.check_no_fit(desk, sort, wrong)
            self.assertIsNone(getattr(desk, METHODS[sort])(*good))

    def test_no_fit(self):
        desk = desk_of(Book(2, 2, [(0, 0, 5), (1, 0, 3)], [(0, 1, 2)], [(1, "most", 6)], [(0, L, 0, L)]))
        for sort, item in (("gaps", (1, 0, -1)), ("sure", (0, "least", 5)), ("clauses", (0, E, 0, E))):
            self.check_no_fit(desk, sort, item)
        desk.clause(1, E, 1, E)
        self.check_no_fit(desk, "tellings", (1, 1, 7))


class DropTest(DeskTest):
    def test_each_item(self):
        book = planted_books("drop", 1, tellings=5, clauses=5)[0]
        book = made(book, [some for sort in PARTS for some in [(sort, item) for item in getattr(book, sort)[:4]]])
        for sort in PARTS:
            for index in range(4):
                desk = desk_of(book)
                self.assertIsNone(desk.drop(sort, index))
                self.assertEqual(desk.book, book.without(sort, index))

    def test_no_index(self):
        desk = desk_of(Book(2, 2, [(0, 0, 5)] * 2, [(0, 1, 2)] * 2, [(1, "most", 6)] * 2, [(0, L, 0, L)] * 2))
        for sort in PARTS:
            for index in out_of_range(2):
                self.check_refused(desk, NoIndex, {"index": index}, "drop", sort, index)
        for sort in NEITHER + [SameAsAll(), 0, 1, "telling", "Gaps", "sure ", "events", "tell", "gap", [], (), ["gaps"], ("gaps",),
                               "bounds", b"gaps", {"gaps": 0}]:
            for index in (0, 1, None, -1, True, [], "0"):
                self.check_refused(desk, NoIndex, {"index": index}, "drop", sort, index)
        for sort in PARTS:
            for index in (0, -1, False, None):
                self.check_refused(Desk(2, 2), NoIndex, {"index": index}, "drop", sort, index)

    def test_the_very_object(self):
        index = [0]
        with self.assertRaises(NoIndex) as caught:
            Desk(1, 1).drop("gaps", index)
        self.assertIs(caught.exception.index, index)


class BackTest(DeskTest):
    def test_nothing(self):
        desk = Desk(1, 1)
        for _ in range(2):
            self.check_refused(desk, Nothing, {}, "undo")
            self.check_refused(desk, Nothing, {}, "redo")
        desk.tell(0, 0, 5)
        self.check_refused(desk, Nothing, {}, "redo")
        self.assertIsNone(desk.undo())
        self.check_refused(desk, Nothing, {}, "undo")
        self.assertIsNone(desk.redo())
        self.check_refused(desk, Nothing, {}, "redo")
        self.assertEqual(desk.book, Book(1, 1, [(0, 0, 5)]))

    def test_all_the_way_back_and_again(self):
        book = planted_books("back", 1)[0]
        desk = desk_of(book)
        items = items_of(book)
        for many in range(len(items) - 1, -1, -1):
            self.assertIsNone(desk.undo())
            self.assertEqual(desk.book, made(book, items[:many]))
        self.check_refused(desk, Nothing, {}, "undo")
        for many in range(1, len(items) + 1):
            self.assertIsNone(desk.redo())
            self.assertEqual(desk.book, made(book, items[:many]))
        self.check_refused(desk, Nothing, {}, "redo")

    def test_another_deed_ends_what_can_be_redone(self):
        for deed in (lambda desk: desk.tell(0, 0, 9), lambda desk: desk.drop("tellings", 0)):
            desk = Desk(1, 1)
            desk.tell(0, 0, 5)
            desk.tell(0, 0, 6)
            desk.undo()
            deed(desk)
            self.check_refused(desk, Nothing, {}, "redo")
            desk.undo()
            self.assertEqual(desk.book, Book(1, 1, [(0, 0, 5)]))

    def test_a_refused_deed_leaves_what_can_be_redone(self):
        desk, wrong = full_desk("sure")
        desk.drop("sure", 3)
        desk.undo()
        self.check_refused(desk, TooMany, {"limit": 20}, "bound", *wrong)
        self.check_refused(desk, Wrong, {"place": 0}, "tell", 3, 0, 0)
        self.check_refused(desk, NoIndex, {"index": 20}, "drop", "sure", 20)
        self.check_refused(desk, NoIndex, {"index": 0}, "drop", "Sure", 0)
        desk.redo()
        desk.undo()
        desk.undo()
        self.check_no_fit(desk, "sure", wrong)
        desk.redo()
        desk.redo()
        self.assertEqual(len(desk.book.sure), 19)
        self.check_refused(desk, Nothing, {}, "redo")

    def test_dropping_is_taken_back(self):
        book = Book(2, 2, [(0, 0, 5), (1, 0, 3), (1, 1, 9)], [], [], [(0, L, 0, L)])
        desk = desk_of(book)
        desk.drop("tellings", 1)
        desk.drop("clauses", 0)
        desk.undo()
        self.assertEqual(desk.book, book.without("tellings", 1))
        desk.undo()
        self.assertEqual(desk.book, book)
        desk.redo()
        self.assertEqual(desk.book, book.without("tellings", 1))


class CopiedTest(DeskTest):
    def test_both_go_on_by_themselves(self):
        desk = Desk(2, 2)
        desk.tell(0, 0, 5)
        desk.tell(1, 0, 3)
        desk.undo()
        other = desk.copied()
        self.assertIs(other.__class__, Desk)
        self.assertEqual(other.book, desk.book)
        desk.gap(0, 1, 2)
        self.assertEqual(other.book, Book(2, 2, [(0, 0, 5)]))
        other.redo()
        self.assertEqual([other.book, desk.book], [Book(2, 2, [(0, 0, 5), (1, 0, 3)]), Book(2, 2, [(0, 0, 5)], [(0, 1, 2)])])
        self.check_refused(desk, Nothing, {}, "redo")
        other.undo()
        other.undo()
        self.check_refused(other, Nothing, {}, "undo")
        desk.undo()
        desk.undo()
        self.assertEqual([desk.book, other.book], [Book(2, 2)] * 2)
        desk.redo()
        self.assertEqual([desk.book.tellings, other.book.tellings], [((0, 0, 5),), ()])
        other.redo()
        other.redo()
        self.assertEqual([desk.book.tellings, other.book.tellings], [((0, 0, 5),), ((0, 0, 5), (1, 0, 3))])

    def test_copies_of_copies(self):
        desk = Desk(1, 1)
        copies = [desk]
        for _ in range(4):
            copies[-1].tell(0, 0, 5)
            copies.append(copies[-1].copied())
        copies[-1].undo()
        self.assertEqual([len(some.book.tellings) for some in copies], [1, 2, 3, 4, 3])
        copies[2].undo()
        copies[1].drop("tellings", 0)
        self.assertEqual([len(some.book.tellings) for some in copies], [1, 1, 2, 4, 3])


class DrawnTest(DeskTest):
    def do(self, chance, desk, model):
        """Do one deed at a desk and its model; return a word for what it was and what came of it."""
        name = chance.choice(["put"] * 6 + ["drop", "undo", "undo", "redo"])
        if name == "put":
            drawn = drawn_item(chance, desk.book.events, desk.book.witnesses)
            if drawn is None:
                return "none"
            sort, item = drawn
            came = model.copied().put(sort, item)
            if came == "no fit":
                self.check_no_fit(desk, sort, item)
            elif came == "too many":
                self.check_refused(desk, TooMany, {"limit": 20}, METHODS[sort], *item)
            else:
                self.assertIsNone(getattr(desk, METHODS[sort])(*item))
            model.put(sort, item)
            return came
        if name == "drop":
            sort, index = chance.choice(PARTS), chance.randint(-1, 3)
            came = model.drop(sort, index)
            if came == "no index":
                self.check_refused(desk, NoIndex, {"index": index}, "drop", sort, index)
            else:
                self.assertIsNone(desk.drop(sort, index))
            return "drop " + came
        came = getattr(model, name)()
        if came == "nothing":
            self.check_refused(desk, Nothing, {}, name)
        else:
            self.assertIsNone(getattr(desk, name)())
        return name + " " + came

    def test_drawn_deeds(self):
        chance = Random("drawn deeds")
        seen = set()
        for _ in range(25):
            sizes = chance.randint(0, 3), chance.randint(0, 3)
            both = [(Desk(*sizes), Model(*sizes))]
            for _ in range(60):
                desk, model = chance.choice(both)
                seen.add(self.do(chance, desk, model))
                self.assertTrue(all(desk.book == model.book for desk, model in both))
                if len(both) < 3 and chance.random() < 0.05:
                    both.append((desk.copied(), model.copied()))
        self.assertLessEqual({"done", "no fit", "drop done", "drop no index", "undo done", "undo nothing", "redo done",
                              "redo nothing"}, seen)

    def test_great_desks_in_good_time(self):
        for book in planted_books("desk", 2):
            desk = check_quick(self, 4, desk_of, book)
            self.assertEqual(desk.book, book)
            for sort in PARTS:
                check_quick(self, 1, desk.drop, sort, 0)
                check_quick(self, 1, getattr(desk, METHODS[sort]), *getattr(book, sort)[0])
            check_quick(self, 1, desk.undo)
            check_quick(self, 1, desk.redo)
            self.assertEqual(check_quick(self, 1, desk.copied).book, desk.book)

    def test_the_book_that_was_told_stays(self):
        desk = Desk(1, 1)
        desk.tell(0, 0, 5)
        book = desk.book
        desk.tell(0, 0, 6)
        self.assertEqual(book, Book(1, 1, [(0, 0, 5)]))
        self.assertEqual(desk.book, desk.book)


if __name__ == "__main__":
    unittest.main()
