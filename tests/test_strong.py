"""[72] strong, with [2], [3], [4], [10], [11] and [12]."""

import unittest
from itertools import permutations, product

from earlyorlate.aside import is_aside
from earlyorlate.books import Book
from earlyorlate.orders import sure_gap, sure_window
from earlyorlate.reasons import is_reason
from earlyorlate.strong import enough_bound, enough_gap, strong_bound, strong_gap
from tests.checks import check_no_fit, check_quick, check_unchanged, unfit_books
from tests.helper import SIDES
from tests.oracle import is_true_reason, mixed_books, planted_books, rows_of, sets_of, some_fit
from tests.sets import fewest_to_meet, fits_when_struck, named, others, quick_fits

E, L = "early", "late"
GREAT = 10 ** 12
GREATER = 10 ** 13


def with_gap(book, a, b, g):
    """The Book with the contrary of a gap."""
    return Book(book.events, book.witnesses, book.tellings, book.gaps + ((b, a, 1 - g),), book.sure, book.clauses)


def with_bound(book, e, side, x):
    """The Book with the contrary of a bound."""
    bound = (e, "most", x - 1) if side == "least" else (e, "least", x + 1)
    return Book(book.events, book.witnesses, book.tellings, book.gaps, book.sure + (bound,), book.clauses)


def size(told):
    """Of how many witnesses an answer tells, or what it tells in their place."""
    if told is None or told[:1] == ("always",):
        return told and told[0]
    return len(told[1]) if told[:1] == ("while",) else len(told)


class StrongTest(unittest.TestCase):
    def check(self, book, strong, enough, fits=fits_when_struck):
        """Check what was told of a book that has a contrary more; return a word for what it is, and how many are enough."""
        if fits(book, ()):
            self.assertIsNone(strong)
            self.assertIsNone(enough)
            return "not sure", None
        self.assertIs(strong.__class__, tuple)
        self.check_enough(book, enough, fits)
        if not fits(book, range(book.witnesses)):
            self.assertEqual([len(strong), strong[0], enough], [2, "always", []])
            self.check_reason(book, strong[1])
            self.assertEqual(named(strong[1]), set())
            return "always", 0
        self.assertEqual([len(strong), strong[0]], [3, "while"])
        self.check_aside(book, *strong[1:], fits)
        self.assertIs(is_aside(book, strong[1:]), True)
        return len(strong[1]), len(enough)

    def check_reason(self, book, found):
        self.assertTrue(is_true_reason(book, found), found)
        self.assertIs(is_reason(book, found), True)

    def check_enough(self, book, enough, fits):
        self.assertIs(enough.__class__, list)
        self.assertIn(tuple(enough), sets_of(book))
        self.assertFalse(fits(book, others(book, enough)))
        fewer = [some for some in sets_of(book) if len(some) < len(enough)]
        self.assertTrue(all(fits(book, others(book, some)) for some in fewer))

    def check_aside(self, book, witnesses, reasons, fits):
        self.assertEqual([witnesses.__class__, reasons.__class__], [list, list])
        self.assertIn(tuple(witnesses), sets_of(book))
        self.assertTrue(fits(book, witnesses))
        for some in reasons:
            self.check_reason(book, some)
        self.assertEqual(fewest_to_meet(book, [named(some) for some in reasons]), len(witnesses))

    def check_gap(self, book, a, b, g, fits=fits_when_struck):
        return self.check(with_gap(book, a, b, g), strong_gap(book, a, b, g), enough_gap(book, a, b, g), fits)

    def check_bound(self, book, e, side, x, fits=fits_when_struck):
        return self.check(with_bound(book, e, side, x), strong_bound(book, e, side, x), enough_bound(book, e, side, x), fits)

    def check_ends(self, book, fits=fits_when_struck):
        """Check gaps and bounds at, beside and far off what is sure; return all that they are."""
        found = set()
        for a, b in permutations(range(book.events), 2):
            end = sure_gap(book, a, b)
            for g in (-GREATER, 0, GREATER) if end is None else (-GREATER, end - 1, end, end + 1, GREATER):
                found.add(self.check_gap(book, a, b, g, fits))
        for e, side in product(range(book.events), SIDES):
            end = sure_window(book, e)[SIDES.index(side)]
            for x in (-GREATER, 0, GREATER) if end is None else (-GREATER, end - 1, end, end + 1, GREATER):
                found.add(self.check_bound(book, e, side, x, fits))
        return found


class FewTest(StrongTest):
    def test_nothing_told(self):
        for events, witnesses in product((2, 8), (0, 8)):
            book = Book(events, witnesses)
            for g in (-GREATER, 0, GREATER):
                self.assertEqual([strong_gap(book, 0, events - 1, g), enough_gap(book, 0, events - 1, g)], [None, None])
                for side in SIDES:
                    self.assertEqual([strong_bound(book, 0, side, g), enough_bound(book, 0, side, g)], [None, None])

    def test_said_by_gaps_and_bounds_alone(self):
        book = Book(3, 2, [(0, 0, 5), (1, 2, 9)], [(0, 1, 2), (1, 2, 3)], [(0, "least", 4), (2, "most", 30)])
        self.assertEqual([self.check_gap(book, 0, 2, g) for g in (4, 5, 6)],
                         [("always", 0), ("always", 0), ("not sure", None)])
        self.assertEqual([self.check_bound(book, 2, "least", x) for x in (8, 9, 10)],
                         [("always", 0), ("always", 0), ("not sure", None)])
        self.assertEqual([self.check_bound(book, 0, "most", x) for x in (26, 25, 24)],
                         [("always", 0), ("always", 0), ("not sure", None)])
        self.assertEqual([strong_gap(book, 0, 2, 5)[1][0], strong_bound(book, 2, "least", 9)[1][0]], ["gaps", "bounds"])
        self.assertEqual(self.check_gap(book, 2, 0, -26), ("always", 0))

    def test_one_witness(self):
        book = Book(1, 1, [(0, 0, 5)], [], [], [(0, E, 0, E)])
        self.assertEqual([self.check_bound(book, 0, "least", x) for x in (-GREATER, 4, 5, 6)],
                         [(1, 1), (1, 1), (1, 1), ("not sure", None)])
        self.assertEqual(self.check_bound(book, 0, "most", 5), ("not sure", None))
        self.assertEqual([strong_bound(book, 0, "least", 5)[1], enough_bound(book, 0, "least", 5)], [[0], [0]])

    def test_several_who_say_it(self):
        # Each of five says it by itself, so all must be struck, but one is enough.
        book = Book(1, 6, [(w, 0, 5 + w) for w in range(5)], [], [(0, "most", 20)], [(w, E, w, E) for w in range(5)])
        self.assertEqual([self.check_bound(book, 0, "least", 5 + many) for many in range(6)],
                         [(5, 1), (4, 1), (3, 1), (2, 1), (1, 1), ("not sure", None)])

    def test_several_who_say_it_together(self):
        # Who is early passes it on to the next one, and the last one says it: each is needed.
        clauses = [(0, E, 0, E)] + [(w, L, w + 1, E) for w in range(4)]
        book = Book(1, 6, [(4, 0, 5)], [], [], clauses)
        self.assertEqual(self.check_bound(book, 0, "least", 5), (1, 5))
        self.assertEqual(enough_bound(book, 0, "least", 5), [0, 1, 2, 3, 4])
        shorter = book.with_telling(5, 0, 7).with_known(5, E)
        self.assertEqual([self.check_bound(shorter, 0, "least", x) for x in (5, 7)], [(2, 1), (1, 1)])
        self.assertEqual(enough_bound(shorter, 0, "least", 5), [5])

    def test_gaps_by_two_who_tell_of_two_events(self):
        book = Book(2, 3, [(0, 0, 5), (1, 1, 9), (2, 1, 8)], [], [], [(0, L, 0, L), (1, E, 1, E), (2, E, 2, E)])
        self.assertEqual([self.check_gap(book, 0, 1, g) for g in (3, 4, 5)], [(1, 2), (1, 2), ("not sure", None)])
        self.assertEqual([strong_gap(book, 0, 1, 3)[1], enough_gap(book, 0, 1, 4)], [[0], [0, 1]])

    def test_either_or(self):
        # Whichever kind witness 0 is of, the time is at least 5.
        book = Book(1, 3, [(1, 0, 5), (2, 0, 6)], [], [], [(0, L, 1, E), (0, E, 2, E)])
        self.assertEqual([self.check_bound(book, 0, "least", x) for x in (5, 6)], [(1, 3), ("not sure", None)])

    def test_great_numbers(self):
        book = Book(8, 1, [(0, 0, GREAT)], [(a, a + 1, GREAT) for a in range(7)], [], [(0, E, 0, E)])
        self.assertEqual([self.check_bound(book, 7, "least", 8 * GREAT + by) for by in (0, 1)], [(1, 1), ("not sure", None)])
        self.assertEqual([self.check_gap(book, 0, 7, 7 * GREAT + by) for by in (0, 1)],
                         [("always", 0), ("not sure", None)])
        self.assertEqual([self.check_gap(book, 7, 0, -7 * GREAT - by) for by in (0, 1)], [("not sure", None)] * 2)

    def test_contraries_with_no_fit_otherwise(self):
        # What is known of a witness who tells nothing does not help.
        book = Book(1, 2, [(0, 0, 5)], [], [], [(1, E, 1, E)])
        self.assertEqual(self.check_bound(book, 0, "least", 5), ("not sure", None))


class BooksTest(StrongTest):
    def test_books_as_they_come(self):
        found = set()
        many = 0
        for book in mixed_books("strong", 260, events=(1, 3), witnesses=(0, 4), items=(0, 5), numbers=(-3, 3),
                                gaps=(-6, 0), clauses=(0, 6)):
            if some_fit(book):
                found |= self.check_ends(book)
                many += 1
        self.assertGreater(many, 60)
        self.assertLessEqual({("not sure", None), ("always", 0), (1, 1), (2, 1), (1, 2), (1, 3)}, found)

    def test_greater_books(self):
        found = set()
        for book in planted_books("strong", 6, slack=12, tellings=9, clauses=9):
            for e in range(0, 8, 3):
                for side, end in zip(SIDES, sure_window(book, e)):
                    found.add(self.check_bound(book, e, side, end, quick_fits))
            found.add(self.check_gap(book, 0, 5, sure_gap(book, 0, 5) or 0, quick_fits))
        self.assertGreater(len(found), 2)

    def test_time_turned(self):
        for book in mixed_books("strong turned", 40, events=(2, 2), witnesses=(1, 3), items=(1, 4), gaps=(-4, 0)):
            if some_fit(book):
                for x in range(-3, 4):
                    for side, other in (SIDES, SIDES[::-1]):
                        for call in (strong_bound, enough_bound):
                            self.assertEqual(size(call(book, 0, side, x)), size(call(book.turned(), 0, other, -x)))
                    for call in (strong_gap, enough_gap):
                        self.assertEqual(size(call(book, 0, 1, x)), size(call(book.turned(), 1, 0, x)))

    def test_great_books_in_good_time(self):
        for book in planted_books("quick", 2) + planted_books("quick too", 2, slack=3):
            for e, side in product((0, 7), SIDES):
                x = sure_window(book, e)[SIDES.index(side)] or 0
                strong = check_quick(self, 2, strong_bound, book, e, side, x)
                enough = check_quick(self, 2, enough_bound, book, e, side, x)
                self.check(with_bound(book, e, side, x), strong, enough, quick_fits)
            for a, b in ((0, 7), (3, 4)):
                g = sure_gap(book, a, b) or 0
                strong = check_quick(self, 2, strong_gap, book, a, b, g)
                enough = check_quick(self, 2, enough_gap, book, a, b, g)
                self.check(with_gap(book, a, b, g), strong, enough, quick_fits)

    def test_as_many_as_there_are(self):
        told = [(w, e, 10 * e) for w in range(8) for e in (0, 1)]
        book = Book(2, 8, told, [], [], [(w, E, w, E) for w in range(8)])
        self.assertEqual([self.check_bound(book, 1, "least", x, quick_fits) for x in (10, 11)], [(8, 1), ("not sure", None)])
        ring = [(w, E, (w + 1) % 8, E) for w in range(8)] + [(w, E, (w + 2) % 8, E) for w in range(8)]
        self.check_bound(Book(2, 8, told, [], [], ring), 1, "least", 10, quick_fits)


class ErrorsTest(unittest.TestCase):
    def test_no_fit_ahead_of_all_else(self):
        for book in unfit_books():
            self.assertFalse(rows_of(book))
            for g in (-GREATER, -3, 0, 3, GREATER):
                for call in (strong_gap, enough_gap):
                    check_no_fit(self, book, call, 0, 1, g)
                    check_no_fit(self, book, call, 2, 0, g)
                for call, side in product((strong_bound, enough_bound), SIDES):
                    check_no_fit(self, book, call, 0, side, g)
                    check_no_fit(self, book, call, 2, side, g)

    def test_the_book_stays(self):
        book = Book(2, 3, [(0, 0, 5), (1, 1, 9), (2, 1, 8)], [(0, 1, 1)], [], [(0, L, 0, L), (1, E, 1, E), (2, E, 2, E)])
        check_unchanged(self, book, lambda some: strong_gap(some, 0, 1, 3), lambda some: enough_gap(some, 0, 1, 3),
                        lambda some: strong_gap(some, 0, 1, 1), lambda some: enough_gap(some, 0, 1, 1),
                        lambda some: strong_bound(some, 1, "least", 8), lambda some: enough_bound(some, 1, "least", 8),
                        lambda some: strong_gap(some, 0, 1, 30), lambda some: enough_bound(some, 1, "least", 30))


class ExamplesTest(unittest.TestCase):
    def test_examples_of_the_document(self):
        book = Book(2, 3, [(0, 0, 5), (1, 0, 3), (1, 1, 9), (2, 1, 4)], [(0, 1, 2)], [(0, "least", 4)])
        self.assertEqual([strong_gap(book, 0, 1, 2)[0], strong_gap(book, 0, 1, 3), enough_bound(book, 1, "least", 9),
                          enough_bound(book, 1, "least", 6)],
                         ["always", None, [1], []])
        self.assertEqual(strong_bound(book, 1, "least", 9)[:2], ("while", [1]))


if __name__ == "__main__":
    unittest.main()
