"""[52] spans, with [2], [3], [4], [5], [7], [11] and [12]."""

import unittest
from itertools import product

from earlyorlate.books import Book
from earlyorlate.fits import is_explanation
from earlyorlate.orders import sure_window
from earlyorlate.reasons import is_reason
from earlyorlate.spans import at_gap, at_time, gaps_of, times_of, why_never, why_no_gap
from tests.checks import check_no_fit, check_quick, check_unchanged, unfit_books
from tests.oracle import all_kinds, holds, is_true_reason, mixed_books, planted_books, rows_of, some_fit

E, L = "early", "late"
GREAT = 10 ** 12
GREATER = 10 ** 13


def in_one_of(stretches, x):
    return any((low is None or low <= x) and (high is None or x <= high) for low, high in stretches)


def with_window(book, e, low, high):
    return Book(book.events, book.witnesses, book.tellings, book.gaps,
                book.sure + ((e, "least", low), (e, "most", high)), book.clauses)


def with_gaps(book, a, b, low, high):
    return Book(book.events, book.witnesses, book.tellings, book.gaps + ((a, b, low), (b, a, -high)), book.sure,
                book.clauses)


class SpansTest(unittest.TestCase):
    def check_form(self, found):
        """Check that these are ascending stretches as long as possible; return numbers at, beside and far off the ends."""
        self.assertIs(found.__class__, list)
        self.assertTrue(found)
        for at, stretch in enumerate(found):
            self.assertEqual([stretch.__class__, len(stretch)], [tuple, 2])
            low, high = stretch
            self.assertTrue(low is not None or at == 0)
            self.assertTrue(high is not None or at == len(found) - 1)
            self.assertTrue(low is None or high is None or low <= high)
        for (_, high), (low, _) in zip(found, found[1:]):
            self.assertLess(high + 1, low)
        ends = [end for stretch in found for end in stretch if end is not None]
        return sorted({end + by for end in ends for by in (-1, 0, 1)} | {-GREATER, 0, GREATER})

    def check_explanation(self, book, found, is_there):
        """Check an explanation of a book with two items more, or None."""
        if not is_there:
            self.assertIsNone(found)
            return
        self.assertEqual([found.__class__, len(found)], [tuple, 2])
        self.assertTrue(holds(book, *found), found)
        self.assertIs(is_explanation(book, found), True)

    def check_reason(self, book, found, is_there):
        if not is_there:
            self.assertIsNone(found)
            return
        self.assertTrue(is_true_reason(book, found), found)
        self.assertIs(is_reason(book, found), True)

    def check_times(self, book, e, ranges=True):
        """Check times_of, at_time and why_never by asking the book with a window of one, and greater ones, more."""
        found = times_of(book, e)
        numbers = self.check_form(found)
        for x in numbers:
            more = with_window(book, e, x, x)
            is_there = some_fit(more)
            self.assertIs(in_one_of(found, x), is_there, (e, x))
            self.check_explanation(more, at_time(book, e, x), is_there)
        for low in numbers:
            for high in [x for x in numbers if x >= low and (ranges or x == low)]:
                more = with_window(book, e, low, high)
                self.check_reason(more, why_never(book, e, low, high), not some_fit(more))
        return found

    def check_gaps(self, book, a, b, ranges=True):
        """The same for gaps_of, at_gap and why_no_gap."""
        found = gaps_of(book, a, b)
        numbers = self.check_form(found)
        if a == b:
            self.check_gap_to_itself(book, a, found)
            return found
        for d in numbers:
            more = with_gaps(book, a, b, d, d)
            is_there = some_fit(more)
            self.assertIs(in_one_of(found, d), is_there, (a, b, d))
            self.check_explanation(more, at_gap(book, a, b, d), is_there)
        for low in numbers:
            for high in [d for d in numbers if d >= low and (ranges or d == low)]:
                more = with_gaps(book, a, b, low, high)
                self.check_reason(more, why_no_gap(book, a, b, low, high), not some_fit(more))
        return found

    def check_gap_to_itself(self, book, a, found):
        self.assertEqual(found, [(0, 0)])
        self.check_explanation(book, at_gap(book, a, a, 0), True)
        for d in (-GREATER, -1, 1, GREATER):
            self.assertIsNone(at_gap(book, a, a, d))

    def check_book(self, book):
        """Check a book with an explanation; return of how many stretches there are several."""
        found = [self.check_times(book, e) for e in range(book.events)]
        found += [self.check_gaps(book, a, b) for a, b in product(range(book.events), repeat=2)]
        return len([stretches for stretches in found if len(stretches) > 1])


class FewTest(SpansTest):
    def check_one(self, book, found):
        """Check a book of one event that has these times."""
        self.assertEqual(times_of(book, 0), found)
        self.check_book(book)
        turned = [(None if high is None else -high, None if low is None else -low) for low, high in found[::-1]]
        self.assertEqual(times_of(book.turned(), 0), turned)

    def test_nothing_known(self):
        for events, witnesses in product((1, 8), (0, 8)):
            book = Book(events, witnesses)
            self.assertEqual([times_of(book, events - 1), gaps_of(book, 0, 0)], [[(None, None)], [(0, 0)]])
            self.assertEqual(gaps_of(book, 0, events - 1), [(None, None)] if events > 1 else [(0, 0)])
        self.check_book(Book(2, 1))

    def test_windows(self):
        self.check_one(Book(1, 0, [], [], [(0, "least", 3)]), [(3, None)])
        self.check_one(Book(1, 0, [], [], [(0, "least", 3), (0, "most", 8)]), [(3, 8)])
        self.check_one(Book(1, 0, [], [], [(0, "least", 3), (0, "most", 3)]), [(3, 3)])

    def test_one_witness(self):
        self.check_one(Book(1, 1, [(0, 0, 5)]), [(None, None)])
        self.check_one(Book(1, 1, [(0, 0, 5), (0, 0, 6)]), [(None, None)])
        self.check_one(Book(1, 1, [(0, 0, 5), (0, 0, 7)]), [(None, 5), (7, None)])
        self.check_one(Book(1, 1, [(0, 0, 5), (0, 0, 7)], [], [(0, "least", 5), (0, "most", 7)]), [(5, 5), (7, 7)])
        self.check_one(Book(1, 1, [(0, 0, 5), (0, 0, 7)], [], [(0, "least", 6)]), [(7, None)])
        self.check_one(Book(1, 1, [(0, 0, 5), (0, 0, 7)], [], [(0, "least", 2)], [(0, L, 0, L)]), [(2, 5)])

    def test_many_stretches(self):
        told = [(w, 0, 10 * w + by) for w in range(7) for by in (0, 3)]
        found = [(None, 0)] + [(10 * w + 3, 10 * w + 10) for w in range(6)] + [(63, None)]
        self.check_one(Book(1, 7, told), found)
        self.check_one(Book(1, 7, told[::-1], [], [(0, "least", 15), (0, "most", 43)]),
                       [(15, 20), (23, 30), (33, 40), (43, 43)])
        touching = [(w, 0, 10 * w + by) for w in range(7) for by in (0, 1)]
        self.check_one(Book(1, 7, touching), [(None, None)])

    def test_a_stretch_within_another_one(self):
        # The less said of who is early, the more stretches lie in one another.
        book = Book(1, 3, [(0, 0, 2), (1, 0, 4), (2, 0, 9)], [], [], [(0, E, 2, E), (1, L, 1, L)])
        self.check_one(book, [(2, 4)])
        self.check_one(Book(1, 2, [(0, 0, 2), (0, 0, 4), (1, 0, 3)]), [(None, 2), (4, None)])
        # If witness 0 is early, event 0 is from 5 to 20; from 7 on, if witness 1 is, up to 9, if witness 2 is late.
        book = Book(3, 3, [(0, 0, 0), (0, 0, 5), (1, 1, 7), (2, 2, 9)], [(1, 0, 0), (0, 2, 0)], [(0, "most", 20)])
        self.assertEqual(times_of(book, 0), [(None, 0), (5, 20)])
        self.check_book(book)

    def test_gaps(self):
        book = Book(2, 1, [(0, 0, 5), (0, 1, 9)], [(0, 1, 1)], [(1, "most", 12), (0, "least", 2)])
        self.assertEqual([gaps_of(book, 0, 1), gaps_of(book, 1, 0)], [[(1, 7)], [(-7, -1)]])
        self.check_book(book)
        apart = Book(2, 1, [(0, 0, 5), (0, 0, 9)], [], [(0, "least", 4), (0, "most", 10), (1, "least", 0), (1, "most", 1)])
        self.assertEqual([gaps_of(apart, 0, 1), gaps_of(apart, 1, 0)], [[(-10, -8), (-5, -3)], [(3, 5), (8, 10)]])
        self.check_book(apart)
        self.assertEqual(gaps_of(Book(2, 0, [], [(0, 1, 3), (1, 0, -3)]), 0, 1), [(3, 3)])
        self.assertEqual(gaps_of(Book(3, 0, [], [(0, 1, 3), (2, 0, -7), (1, 2, 1)]), 0, 1), [(3, 6)])

    def test_ends_by_ways_and_by_bounds(self):
        book = Book(2, 0, [], [(0, 1, 4)], [(0, "most", 3), (1, "least", 5)])
        self.assertEqual([gaps_of(book, 0, 1), gaps_of(book, 1, 0)], [[(4, None)], [(None, -4)]])
        self.assertEqual(gaps_of(book.without("gaps", 0), 0, 1), [(2, None)])
        self.assertEqual(gaps_of(book.with_sure(0, "least", 0).with_sure(1, "most", 6), 0, 1), [(4, 6)])
        self.check_book(book)

    def test_great_numbers(self):
        gaps = [(a, a + 1, GREAT) for a in range(7)]
        book = Book(8, 1, [(0, 0, -GREAT), (0, 0, GREAT)], gaps)
        self.assertEqual(times_of(book, 7), [(None, None)])
        book = book.with_sure(0, "least", -GREAT).with_sure(7, "most", 9 * GREAT)
        self.assertEqual([times_of(book, 0), times_of(book, 7)],
                         [[(-GREAT, -GREAT), (GREAT, 2 * GREAT)], [(6 * GREAT, 9 * GREAT)]])
        self.check_times(book, 0)
        self.check_times(book, 7)
        self.check_gaps(book, 0, 7)
        self.check_gaps(book, 7, 0)
        self.assertEqual([at_time(book, 0, x) for x in (-GREATER, GREATER)], [None, None])

    def test_the_items_more_stand_in_this_order(self):
        book = Book(2, 0, [], [(0, 1, 2)], [(0, "least", 3), (1, "most", 9)])
        self.assertEqual(why_never(book, 0, 0, 2), ("bounds", (("sure", 0), (), ("sure", 3))))
        self.assertEqual(why_never(book, 0, 8, 12), ("bounds", (("sure", 2), (0,), ("sure", 1))))
        self.assertIsNone(why_never(book, 0, 0, 3))
        self.assertIsNone(why_never(book, 0, 7, 7))
        self.assertEqual(why_never(book, 1, 0, 4), ("bounds", (("sure", 0), (0,), ("sure", 3))))
        self.assertEqual(sorted(why_no_gap(book, 0, 1, -5, 1)[1]), [0, 2])
        self.assertEqual(sorted(why_no_gap(book.with_gap(1, 0, -6), 0, 1, 7, 9)[1]), [1, 2])
        self.assertEqual(why_no_gap(book, 0, 1, 7, 7), ("bounds", (("sure", 0), (1,), ("sure", 1))))
        self.assertIsNone(why_no_gap(book, 0, 1, 6, 7))

    def test_windows_of_one(self):
        twice = Book(1, 1, [(0, 0, 5), (0, 0, 8)])
        self.assertEqual([why_never(twice, 0, x, x) is None for x in (5, 6, 7, 8)], [True, False, False, True])
        self.assertEqual([why_never(twice, 0, *window) is None for window in ((6, 7), (5, 7), (6, 8), (-9, 19))],
                         [False, True, True, True])

    def test_no_fit(self):
        for book in unfit_books():
            for e in range(3):
                check_no_fit(self, book, times_of, e)
                for x in (-GREATER, 7, GREATER):
                    check_no_fit(self, book, at_time, e, x)
                    check_no_fit(self, book, why_never, e, x, GREATER)
            for a, b in product(range(3), repeat=2):
                check_no_fit(self, book, gaps_of, a, b)
                for d in (-3, 0, 3):
                    check_no_fit(self, book, at_gap, a, b, d)
                    if a != b:
                        check_no_fit(self, book, why_no_gap, a, b, d, d)


class BooksTest(SpansTest):
    def test_small_books_against_all_kinds_and_times(self):
        many = 0
        for book in mixed_books("spans", 80, events=(1, 2), witnesses=(0, 3), items=(0, 3), numbers=(-2, 2), gaps=(-3, 0)):
            fitting = [times for times in product(range(-9, 10), repeat=book.events)
                       if any(holds(book, kinds, times) for kinds in all_kinds(book))]
            if fitting:
                many += 1
                for e in range(book.events):
                    reached = {times[e] for times in fitting}
                    self.assertEqual([in_one_of(times_of(book, e), x) for x in range(-5, 6)],
                                     [x in reached for x in range(-5, 6)])
                for a, b in product(range(book.events), repeat=2):
                    reached = {times[b] - times[a] for times in fitting}
                    self.assertEqual([in_one_of(gaps_of(book, a, b), d) for d in range(-5, 6)],
                                     [d in reached for d in range(-5, 6)])
        self.assertGreater(many, 40)

    def test_books_as_they_come(self):
        several = many = 0
        for at, book in enumerate(mixed_books("more spans", 120, events=(1, 3), witnesses=(0, 3), items=(0, 4),
                                              numbers=(-9, 9), gaps=(-20, 2), clauses=(0, 2))):
            # One who told two times that lie far apart is of one kind ahead of them, of the other one behind.
            if book.witnesses and at % 2:
                book = book.with_telling(0, 0, -6).with_telling(0, 0, 7)
            if some_fit(book):
                several += self.check_book(book) > 0
                many += 1
            else:
                check_no_fit(self, book, times_of, 0)
                check_no_fit(self, book, at_gap, 0, 0, 0)
        self.assertTrue(many > 50 and several > 15, (many, several))

    def test_the_ends_are_those_of_the_sure_window(self):
        for book in mixed_books("ends", 60, events=(1, 3), witnesses=(0, 3), items=(0, 4), gaps=(-9, 0)):
            if some_fit(book):
                for e in range(book.events):
                    found = times_of(book, e)
                    self.assertEqual((found[0][0], found[-1][1]), sure_window(book, e))

    def test_great_books_in_good_time(self):
        loose = Book(8, 8, [(at % 8, at % 8, 5) for at in range(20)], [(at % 8, (at + 3) % 8, at - 50) for at in range(20)],
                     [(at % 8, ("least", "most")[at // 8 % 2], (-99, 99)[at // 8 % 2]) for at in range(20)],
                     [(at % 8, E, at % 8, L) for at in range(20)])
        self.assertEqual(len(rows_of(loose)), 256)
        for at, book in enumerate([loose] + planted_books("quick", 2, slack=9)
                                  + planted_books("quicker", 3, slack=60, tellings=16, clauses=3)):
            for call, more in ((times_of, [3]), (gaps_of, [3, 4]), (at_time, [3, 4]), (at_gap, [3, 4, 5]),
                               (why_never, [3, 4, 5]), (why_no_gap, [3, 4, 5, 6])):
                check_quick(self, 2, call, book, *more)
            self.check_times(book, at, False)
            self.check_gaps(book, at, 7 - at, False)

    def test_20_items_already(self):
        book = Book(2, 1, [(0, 0, 5), (0, 0, 8)], [(at % 2, 1 - at % 2, (2, -4)[at % 2]) for at in range(20)],
                    [(at % 2, "most", 30 - at) for at in range(20)])
        self.assertEqual([times_of(book, 0), gaps_of(book, 0, 1)], [[(None, 5), (8, 9)], [(2, 4)]])
        self.check_book(book)

    def test_the_book_stays(self):
        book = Book(2, 2, [(0, 0, 5), (0, 0, 9), (1, 1, 3)], [(0, 1, 2)], [(1, "most", 16)], [(0, E, 1, E)])
        check_unchanged(self, book, lambda some: times_of(some, 0), lambda some: gaps_of(some, 0, 1),
                        lambda some: at_time(some, 0, 5), lambda some: at_gap(some, 0, 1, 3),
                        lambda some: at_gap(some, 1, 1, 0), lambda some: why_never(some, 0, 6, 8),
                        lambda some: why_no_gap(some, 0, 1, 0, 1), lambda some: at_time(some, 0, 7))


class ExamplesTest(unittest.TestCase):
    def test_examples_of_the_document(self):
        book = Book(2, 3, [(0, 0, 5), (1, 0, 3), (1, 1, 9), (2, 1, 4)], [(0, 1, 2)], [(0, "least", 4)])
        twice = Book(1, 1, [(0, 0, 5), (0, 0, 7)])
        self.assertEqual([times_of(twice, 0), at_time(twice, 0, 6), at_time(twice, 0, 7), times_of(book, 1),
                          gaps_of(book, 0, 1)],
                         [[(None, 5), (7, None)], None, ((E,), (7,)), [(9, None)], [(2, None)]])


if __name__ == "__main__":
    unittest.main()
