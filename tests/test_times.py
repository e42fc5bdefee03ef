"""[42] times, with [2], [3], [4] and [7]."""

import unittest
from itertools import product

from earlyorlate.books import Book
from earlyorlate.errors import NoKinds
from earlyorlate.fits import is_explanation
from earlyorlate.times import greatest_times, least_times, times_for
from tests.checks import check_passed_stays, check_quick, unfit_books
from tests.helper import FAR, check_raised, ring_books
from tests.oracle import CONTRARY, all_kinds, ends_of, holds, kinds_that_fit, mixed_books, planted_books, total_of, walks

E, L = "early", "late"

CALLS = (least_times, greatest_times, times_for)


class TimesTest(unittest.TestCase):
    def check_kinds(self, book, kinds, ends):
        """Check all three functions with the least and greatest times there are, or None for kinds that do not fit."""
        if ends is None:
            self.check_no_kinds(book, kinds)
            return
        found = [call(book, kinds) for call in CALLS]
        self.assertEqual([times.__class__ for times in found], [tuple] * 3)
        self.assertEqual(found[:2], list(ends))
        self.assertEqual(len(found[2]), book.events)
        self.assertTrue(all(time.__class__ is int for time in found[2]))
        self.assertTrue(holds(book, kinds, found[2]), found)
        self.assertIs(is_explanation(book, (kinds, found[2])), True)

    def check_no_kinds(self, book, kinds):
        for call in CALLS:
            with self.assertRaises(NoKinds) as caught:
                call(book, kinds)
            self.assertIs(caught.exception.__class__, NoKinds)
            self.assertEqual(list(vars(caught.exception)), ["kinds"])
            self.assertIs(caught.exception.kinds, kinds)

    def check_book(self, book):
        """Check all kinds by what goes on until nothing changes; return how many fit."""
        for kinds in all_kinds(book):
            self.check_kinds(book, kinds, ends_of(book, kinds))
        return len([kinds for kinds in all_kinds(book) if ends_of(book, kinds) is not None])


class FewTest(TimesTest):
    def test_no_events_and_no_witnesses(self):
        self.check_kinds(Book(0, 0), (), ((), ()))
        self.check_kinds(Book(8, 0), (), ((None,) * 8, (None,) * 8))
        self.check_kinds(Book(0, 8), (E, L) * 4, ((), ()))
        self.check_kinds(Book(8, 8), (E, L) * 4, ((None,) * 8, (None,) * 8))
        self.check_kinds(Book(0, 2, [], [], [], [(0, E, 1, E)]), (L, L), None)

    def test_one_event(self):
        book = Book(1, 2, [(0, 0, 5), (1, 0, 3), (0, 0, 4), (1, 0, 2)])
        self.check_kinds(book, (E, E), ((5,), (None,)))
        self.check_kinds(book, (L, L), ((None,), (2,)))
        self.check_kinds(book, (L, E), ((3,), (4,)))
        self.check_kinds(book, (E, L), None)
        self.check_kinds(book.with_sure(0, "least", 4), (L, E), ((4,), (4,)))
        self.check_kinds(book.with_sure(0, "least", 5), (L, E), None)
        self.check_kinds(book.with_sure(0, "least", 9), (E, E), ((9,), (None,)))
        self.check_kinds(book.with_sure(0, "most", 1), (L, L), ((None,), (1,)))

    def test_ways(self):
        book = Book(4, 1, [(0, 0, 5)], [(0, 1, 2), (1, 2, 3), (0, 2, 4), (3, 0, -1)])
        self.check_kinds(book, (E,), ((5, 7, 10, None), (None,) * 4))
        self.check_kinds(book, (L,), ((None,) * 4, (5, None, None, 6)))
        book = book.with_sure(2, "most", 20).with_sure(3, "least", 8)
        self.check_kinds(book, (E,), ((7, 9, 12, 8), (15, 17, 20, 16)))
        self.check_kinds(book, (L,), None)

    def test_ways_there_and_back(self):
        book = Book(2, 1, [(0, 0, 5)], [(0, 1, 3), (1, 0, -3)])
        self.check_kinds(book, (E,), ((5, 8), (None, None)))
        self.check_kinds(book, (L,), ((None, None), (5, 8)))
        self.check_kinds(book.with_sure(1, "least", 8), (L,), ((5, 8), (5, 8)))
        self.check_kinds(book.with_sure(1, "least", 9), (L,), None)

    def test_clauses(self):
        book = Book(1, 2, [(0, 0, 5)], [], [], [(0, E, 1, L), (1, E, 1, E)])
        self.check_kinds(book, (E, E), ((5,), (None,)))
        for kinds in ((E, L), (L, E), (L, L)):
            self.check_kinds(book, kinds, None)

    def test_rings_and_bounds(self):
        for book in ring_books() + unfit_books():
            self.assertEqual(self.check_book(book), 0)
        self.check_kinds(Book(1, 0, [], [], [(0, "least", 3), (0, "most", 2)]), (), None)

    def test_great_numbers(self):
        gaps = [(a, a + 1, FAR) for a in range(7)]
        book = Book(8, 2, [(0, 0, FAR), (1, 7, -FAR)], gaps)
        self.check_kinds(book, (E, E), (tuple(FAR * (e + 1) for e in range(8)), (None,) * 8))
        self.check_kinds(book, (L, L), ((None,) * 8, tuple(FAR * (e - 8) for e in range(8))))
        self.check_kinds(book, (L, E), ((None,) * 7 + (-FAR,), (FAR,) + (None,) * 7))
        self.check_kinds(book, (E, L), None)
        back = [(a + 1, a, -FAR) for a in range(7)]
        self.check_kinds(Book(8, 2, [(0, 0, FAR), (1, 7, FAR)], gaps + back), (E, L), None)
        self.check_kinds(Book(8, 2, [(0, 0, FAR), (1, 7, FAR)], gaps + back), (L, E),
                         (tuple(FAR * (e - 6) for e in range(8)), tuple(FAR * (e + 1) for e in range(8))))

    def test_24_items_in_each_part(self):
        tellings = [(at % 8, at * 3 % 8, at) for at in range(24)]
        gaps = [(at % 8, (at + 1 + at % 5) % 8, -30) for at in range(24)]
        sure = [(at % 8, ("least", "most")[at % 2], (-40, 40)[at % 2] + at) for at in range(24)]
        clauses = [(at % 8, E, at % 8, L) for at in range(24)]
        self.assertGreater(self.check_book(Book(8, 8, tellings, gaps, sure, clauses)), 5)


class BooksTest(TimesTest):
    def test_small_books_against_all_times(self):
        many = 0
        for book in mixed_books("times", 120, events=(1, 2), witnesses=(0, 2)):
            for kinds in kinds_that_fit(book, 4):
                times = [some for some in product(range(-6, 7), repeat=book.events) if holds(book, kinds, some)]
                # The gaps keep some times from the very ends of what is gone through.
                lows = [None if min(some) < -3 else min(some) for some in zip(*times)]
                highs = [None if max(some) > 3 else max(some) for some in zip(*times)]
                self.check_kinds(book, kinds, (tuple(lows), tuple(highs)))
                many += 1
        self.assertGreater(many, 80)

    def test_books_as_they_come(self):
        fitting = [self.check_book(book) for book in
                   mixed_books("more times", 200, events=(0, 4), witnesses=(0, 4), items=(0, 6), numbers=(-9, 9),
                               gaps=(-20, 3), clauses=(0, 3))]
        self.assertTrue(fitting.count(0) > 20 and sum(fitting) > 200, fitting)

    def test_the_words_of_point_7(self):
        # A least time is the greatest number of a floor that holds plus the sum of a way from its event.
        for book in mixed_books("point 7", 60, events=(1, 3), witnesses=(1, 2), items=(0, 3), gaps=(-3, 0)):
            for kinds in all_kinds(book):
                if ends_of(book, kinds) is not None:
                    held = [(e, x) for w, e, x in book.tellings if kinds[w] == E]
                    held += [(e, x) for e, side, x in book.sure if side == "least"]
                    for e, low in enumerate(least_times(book, kinds)):
                        sums = [x + total_of(book, way) for a, x in held for way in walks(book, a, e, book.events)]
                        self.assertEqual(low, max(sums, default=None))

    def test_turned_moved_and_renamed(self):
        for book in mixed_books("turned times", 60, events=(2, 3), witnesses=(2, 2), items=(0, 4), gaps=(-4, 0)):
            for kinds in all_kinds(book):
                if ends_of(book, kinds) is not None:
                    lows, highs = least_times(book, kinds), greatest_times(book, kinds)
                    turned = tuple(CONTRARY[kind] for kind in kinds)
                    negated = [tuple(None if x is None else -x for x in some) for some in (lows, highs)]
                    self.assertEqual(greatest_times(book.turned(), turned), negated[0])
                    self.assertEqual(least_times(book.turned(), turned), negated[1])
                    moved = tuple(None if x is None else x + 10 ** 12 for x in lows)
                    self.assertEqual(least_times(book.moved(10 ** 12), kinds), moved)
                    order = list(range(book.events))[::-1]
                    self.assertEqual(greatest_times(book.renamed(order, [1, 0]), kinds[::-1]), highs[::-1])

    def test_great_books_in_good_time(self):
        for book in planted_books("quick", 2, slack=9) + planted_books("quicker", 2, slack=99, tellings=9, clauses=3):
            for kinds in all_kinds(book)[::13]:
                for call in CALLS:
                    if ends_of(book, kinds) is None:
                        check_quick(self, 2, self.check_no_kinds, book, kinds)
                    else:
                        check_quick(self, 2, call, book, kinds)
            self.assertGreater(self.check_book(book), 0)

    def test_the_book_stays(self):
        book = Book(3, 2, [(0, 0, 5), (1, 1, 9)], [(0, 1, 2)], [(1, "most", 16)], [(0, L, 1, E)])
        for call in CALLS:
            check_passed_stays(self, call, book, (E, E))
            check_passed_stays(self, call, book, (L, E))
            check_raised(self, NoKinds, {"kinds": (E, L)}, call, book, (E, L))


class ExamplesTest(unittest.TestCase):
    def test_examples_of_the_document(self):
        book = Book(2, 2, [(0, 0, 5), (1, 0, 3), (1, 1, 9)], [(0, 1, 2)], [(1, "most", 6)])
        self.assertEqual([least_times(book, (L, L)), greatest_times(book, (L, L))], [(None, None), (3, 6)])
        self.assertTrue(holds(book, (L, L), times_for(book, (L, L))))


if __name__ == "__main__":
    unittest.main()
