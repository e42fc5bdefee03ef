"""[51] orders, with [2], [3], [4], [7], [10], [11] and [12]."""

import unittest
from itertools import permutations, product

from earlyorlate.books import Book
from earlyorlate.orders import sure_gap, sure_order, sure_window, why_bound, why_gap
from earlyorlate.reasons import is_reason
from tests.checks import check_no_fit, check_quick, check_unchanged, unfit_books
from tests.helper import SIDES
from tests.oracle import all_kinds, holds, is_true_reason, mixed_books, planted_books, rows_of, some_fit

E, L = "early", "late"
GREAT = 10 ** 12
GREATER = 10 ** 13


class OrdersTest(unittest.TestCase):
    def check_reason(self, book, found, is_sure):
        """Check a reason of the book with the contrary, or that there is none."""
        if not is_sure:
            self.assertIsNone(found)
            return
        self.assertTrue(is_true_reason(book, found), found)
        self.assertIs(is_reason(book, found), True)

    def check_gap(self, book, a, b):
        """Check sure_gap by asking the book with the contrary more, and why_gap."""
        found = sure_gap(book, a, b)
        if a == b:
            self.assertEqual(found, 0)
            return
        for g in (-GREATER, GREATER) if found is None else (-GREATER, found - 1, found, found + 1, GREATER):
            contrary = Book(book.events, book.witnesses, book.tellings, book.gaps + ((b, a, 1 - g),), book.sure,
                            book.clauses)
            is_sure = found is not None and g <= found
            self.assertIs(not some_fit(contrary), is_sure, (a, b, g))
            self.check_reason(contrary, why_gap(book, a, b, g), is_sure)

    def check_bounds(self, book, e):
        """Check sure_window by asking the book with the contrary more, and why_bound."""
        for side, other, end, up in (("least", "most", sure_window(book, e)[0], -1),
                                     ("most", "least", sure_window(book, e)[1], 1)):
            for x in (-GREATER, GREATER) if end is None else (-GREATER, end - 1, end, end + 1, GREATER):
                contrary = Book(book.events, book.witnesses, book.tellings, book.gaps, book.sure + ((e, other, x + up),),
                                book.clauses)
                is_sure = end is not None and (x - end) * up >= 0
                self.assertIs(not some_fit(contrary), is_sure, (e, side, x))
                self.check_reason(contrary, why_bound(book, e, side, x), is_sure)

    def check_book(self, book, pairs=None):
        """Check a book with an explanation."""
        for a, b in product(range(book.events), repeat=2) if pairs is None else pairs:
            self.check_gap(book, a, b)
        for e in range(book.events):
            found = sure_window(book, e)
            self.assertEqual([found.__class__, len(found)], [tuple, 2])
            self.check_bounds(book, e)
        self.check_order(book)

    def check_order(self, book):
        found = sure_order(book)
        self.assertIs(found.__class__, list)
        gaps = {(a, b): sure_gap(book, a, b) for a, b in permutations(range(book.events), 2)}
        self.assertEqual(found, sorted(pair for pair, g in gaps.items() if g is not None and g > 0))


class FewTest(OrdersTest):
    def check_all(self, book, gaps, windows, order):
        """Check a book of two events: the two gaps, the two windows, and the order."""
        self.assertEqual([sure_gap(book, 0, 1), sure_gap(book, 1, 0)], gaps)
        self.assertEqual([sure_window(book, 0), sure_window(book, 1)], windows)
        self.assertEqual(sure_order(book), order)
        self.check_book(book)

    def test_edges(self):
        for book in (Book(0, 0), Book(0, 8), Book(0, 1, [], [], [], [(0, E, 0, E)])):
            self.assertEqual(sure_order(book), [])
        for book in (Book(8, 0), Book(8, 8)):
            self.assertEqual([sure_order(book), sure_gap(book, 0, 7), sure_gap(book, 3, 3), sure_window(book, 7)],
                             [[], None, 0, (None, None)])

    def test_gaps(self):
        self.check_all(Book(2, 0), [None, None], [(None, None)] * 2, [])
        self.check_all(Book(2, 0, [], [(0, 1, 1)]), [1, None], [(None, None)] * 2, [(0, 1)])
        self.check_all(Book(2, 0, [], [(0, 1, 0)]), [0, None], [(None, None)] * 2, [])
        self.check_all(Book(2, 0, [], [(1, 0, 3), (1, 0, 4), (0, 1, -9)]), [-9, 4], [(None, None)] * 2, [(1, 0)])
        self.check_all(Book(2, 0, [], [(0, 1, 3), (1, 0, -3)]), [3, -3], [(None, None)] * 2, [(0, 1)])

    def test_bounds_make_gaps(self):
        self.check_all(Book(2, 0, [], [], [(0, "most", 3), (1, "least", 5)]), [2, None], [(None, 3), (5, None)], [(0, 1)])
        self.check_all(Book(2, 0, [], [], [(0, "most", 3), (1, "least", 3)]), [0, None], [(None, 3), (3, None)], [])
        self.check_all(Book(2, 0, [], [(0, 1, 1)], [(0, "most", 3), (1, "least", 5), (0, "least", 1), (1, "most", 9)]),
                       [2, -8], [(1, 3), (5, 9)], [(0, 1)])
        self.check_all(Book(2, 0, [], [(0, 1, 4)], [(0, "most", 3), (1, "least", 5)]), [4, None], [(None, 3), (5, None)],
                       [(0, 1)])

    def test_windows(self):
        self.check_all(Book(2, 0, [], [(0, 1, 2)], [(0, "least", 1), (1, "most", 9)]), [2, -8], [(1, 7), (3, 9)], [(0, 1)])
        self.check_all(Book(2, 0, [], [(0, 1, 2)], [(0, "least", 1), (1, "most", 3)]), [2, -2], [(1, 1), (3, 3)], [(0, 1)])

    def test_what_all_kinds_have_in_common(self):
        book = Book(2, 2, [(0, 0, 5), (1, 0, 3)], [(0, 1, 2)])
        self.check_all(book, [2, None], [(None, None)] * 2, [(0, 1)])
        self.check_all(book.with_clause(0, E, 1, E), [2, None], [(3, None), (5, None)], [(0, 1)])
        self.check_all(book.with_known(0, E), [2, None], [(5, None), (7, None)], [(0, 1)])
        self.check_all(book.with_known(0, L), [2, None], [(None, 5), (None, None)], [(0, 1)])
        self.check_all(book.with_known(1, L), [2, None], [(None, 3), (None, None)], [(0, 1)])

    def test_an_order_that_each_kind_gives_for_itself(self):
        # If witness 0 is early, event 1 is not before 3; if not, witness 1 is, and event 1 is not before 2.
        book = Book(3, 2, [(0, 1, 3), (1, 2, 2)], [(2, 1, 0)], [(0, "most", 0)], [(0, E, 1, E), (0, L, 1, L)])
        self.assertEqual([sure_gap(book, 0, 1), sure_window(book, 1), sure_order(book)], [2, (2, None), [(0, 1)]])
        self.assertEqual([sure_order(book.with_known(w, E)) for w in (0, 1)], [[(0, 1), (2, 1)], [(0, 1), (0, 2)]])
        self.check_book(book)

    def test_great_numbers(self):
        gaps = [(a, a + 1, GREAT) for a in range(7)]
        book = Book(8, 1, [(0, 0, GREAT)], gaps, [(0, "least", -GREAT), (7, "most", 8 * GREAT)])
        self.assertEqual([sure_gap(book, 0, 7), sure_gap(book, 7, 0), sure_gap(book, 6, 1)],
                         [7 * GREAT, -9 * GREAT, -7 * GREAT])
        self.assertEqual([sure_window(book, 0), sure_window(book, 7)], [(-GREAT, GREAT), (6 * GREAT, 8 * GREAT)])
        self.assertEqual(sure_order(book), [(a, b) for a in range(8) for b in range(a + 1, 8)])
        self.check_book(book, [(0, 7), (7, 0), (3, 4)])
        self.assertEqual([why_gap(book, 0, 7, g) is None for g in (-GREATER, 7 * GREAT, 7 * GREAT + 1, GREATER)],
                         [False, False, True, True])

    def test_no_fit(self):
        for book in unfit_books():
            check_no_fit(self, book, sure_order)
            for e in range(3):
                check_no_fit(self, book, sure_window, e)
                for side, x in product(SIDES, (-GREATER, 7, GREATER)):
                    check_no_fit(self, book, why_bound, e, side, x)
            for a, b in product(range(3), repeat=2):
                check_no_fit(self, book, sure_gap, a, b)
                if a != b:
                    check_no_fit(self, book, why_gap, a, b, 3)

    def test_why_tells_the_item_more_at_the_next_index(self):
        book = Book(2, 1, [], [(0, 1, 2)], [(0, "least", 3)])
        self.assertEqual(sorted(why_gap(book, 0, 1, 1)[1]), [0, 1])
        self.assertEqual(why_bound(book, 0, "least", 3), ("bounds", (("sure", 0), (), ("sure", 1))))
        self.assertEqual(why_bound(book, 1, "least", 5), ("bounds", (("sure", 0), (0,), ("sure", 1))))
        self.assertEqual(why_bound(book.with_sure(1, "most", 9), 0, "most", 7),
                         ("bounds", (("sure", 2), (0,), ("sure", 1))))
        self.assertIsNone(why_bound(book.with_sure(1, "most", 9), 0, "most", 6))


class BooksTest(OrdersTest):
    def test_small_books_against_all_kinds_and_times(self):
        many = 0
        for book in mixed_books("orders", 80, events=(2, 2), witnesses=(0, 2)):
            pairs = [times for times in product(range(-9, 10), repeat=2)
                     if any(holds(book, kinds, times) for kinds in all_kinds(book))]
            if not pairs:
                continue
            many += 1
            for a, b in product(range(2), repeat=2):
                # What is not held by items can reach the very ends of what is gone through.
                least = min(times[b] - times[a] for times in pairs)
                self.assertEqual(sure_gap(book, a, b), None if least < -6 else least)
            for e in range(2):
                low, high = min(times[e] for times in pairs), max(times[e] for times in pairs)
                self.assertEqual(sure_window(book, e), (None if low < -6 else low, None if high > 6 else high))
            self.assertEqual(sure_order(book), [(a, b) for a, b in permutations(range(2), 2)
                                                if all(times[a] < times[b] for times in pairs)])
        self.assertGreater(many, 30)

    def test_books_as_they_come(self):
        orders = many = 0
        for book in mixed_books("more orders", 150, events=(1, 4), witnesses=(0, 3), items=(0, 6), numbers=(-9, 9),
                                gaps=(-20, 3), clauses=(0, 3)):
            if some_fit(book):
                self.check_book(book)
                many += 1
                orders += len(sure_order(book)) > 1
            elif book.events > 1:
                check_no_fit(self, book, sure_order)
                check_no_fit(self, book, sure_gap, 0, 1)
        self.assertTrue(many > 50 and orders > 8, (many, orders))

    def test_turned_and_moved(self):
        # [11] and [12]
        for book in mixed_books("orders turned", 60, events=(2, 3), witnesses=(0, 2), items=(0, 4), gaps=(-5, 0)):
            if some_fit(book):
                turned = [sorted((b, a) for a, b in sure_order(book)), [sure_gap(book, 1, 0)]]
                self.assertEqual([sure_order(book.turned()), [sure_gap(book.turned(), 0, 1)]], turned)
                self.assertEqual(sure_order(book.moved(GREAT)), sure_order(book))
                self.assertEqual(sure_gap(book.moved(GREAT), 0, 1), sure_gap(book, 0, 1))
                low, high = sure_window(book, 0)
                self.assertEqual(sure_window(book.turned(), 0),
                                 (None if high is None else -high, None if low is None else -low))

    def test_great_books_in_good_time(self):
        loose = Book(8, 8, [(at % 8, at % 8, 5) for at in range(20)], [(at % 8, (at + 3) % 8, at - 50) for at in range(20)],
                     [(at % 8, ("least", "most")[at // 8 % 2], (-99, 99)[at // 8 % 2]) for at in range(20)],
                     [(at % 8, E, at % 8, L) for at in range(20)])
        self.assertEqual(len(rows_of(loose)), 256)
        for book in [loose] + planted_books("quick", 2, slack=9) + planted_books("quicker", 2, slack=99, clauses=3):
            for call, more in ((sure_gap, [3, 4]), (sure_window, [3]), (sure_order, []), (why_gap, [3, 4, 5]),
                               (why_bound, [3, "least", 4])):
                check_quick(self, 2, call, book, *more)
            self.check_order(book)
            for a, b in ((0, 5), (6, 2)):
                self.check_gap(book, a, b)
            self.check_bounds(book, 4)

    def test_20_gaps_and_bounds_already(self):
        book = Book(2, 1, [(0, 0, 5)], [(at % 2, 1 - at % 2, (2, -4)[at % 2]) for at in range(20)],
                    [(at % 2, "most", 30 - at) for at in range(20)])
        self.check_book(book)
        self.assertEqual([sure_gap(book, 0, 1), sure_gap(book, 1, 0)], [2, -4])

    def test_the_book_stays(self):
        book = Book(3, 2, [(0, 0, 5), (1, 1, 3)], [(0, 1, 2), (1, 2, -3)], [(1, "most", 16)], [(0, E, 1, E)])
        check_unchanged(self, book, sure_order, lambda some: sure_gap(some, 0, 1), lambda some: sure_gap(some, 1, 1),
                        lambda some: sure_window(some, 0), lambda some: why_gap(some, 0, 1, 2),
                        lambda some: why_bound(some, 1, "most", 16), lambda some: why_bound(some, 1, "least", 16))


class ExamplesTest(unittest.TestCase):
    def test_examples_of_the_document(self):
        book = Book(2, 3, [(0, 0, 5), (1, 0, 3), (1, 1, 9), (2, 1, 4)], [(0, 1, 2)], [(0, "least", 4)])
        self.assertEqual([sure_gap(book, 0, 1), sure_gap(book, 1, 0), sure_window(book, 0), sure_window(book, 1),
                          sure_order(book)], [2, None, (4, None), (9, None), [(0, 1)]])
        self.assertEqual([why_gap(book, 0, 1, 2) is None, why_gap(book, 0, 1, 3)], [False, None])


if __name__ == "__main__":
    unittest.main()
