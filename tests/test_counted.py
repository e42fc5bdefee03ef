"""[61] counted, with [2], [3], [4], [6], [11] and [12]."""

import unittest

from earlyorlate.books import Book
from earlyorlate.counted import Fits, count_fits, early_counts
from earlyorlate.errors import NoIndex, NoKinds
from earlyorlate.fits import explained, fits
from tests.checks import check_quick, check_unchanged, unfit_books
from tests.helper import NEITHER, NO_INTEGERS, NO_KINDS, SameAsAll, check_raised
from tests.oracle import CONTRARY, all_kinds, altered, kinds_that_fit, mixed_books, planted_books, rows_of

E, L = "early", "late"


class CountedTest(unittest.TestCase):
    def check_rows(self, book, rows):
        """Check all of a book of which these are all kinds that fit, ascending."""
        self.assertEqual(count_fits(book), len(rows))
        self.assertEqual(early_counts(book), tuple(len([row for row in rows if row[w] == E])
                                                   for w in range(book.witnesses)))
        self.assertIs(early_counts(book).__class__, tuple)
        row = Fits(book)
        self.assertEqual([len(row), list(row)], [len(rows), rows])
        self.assertEqual([row[index] for index in range(len(rows))], rows)
        self.assertEqual([row.number_of(kinds) for kinds in rows], list(range(len(rows))))
        for kinds in all_kinds(book):
            self.assertIs(kinds in row, kinds in rows)
            self.assertIs(kinds not in row, kinds not in rows)
            if kinds not in rows:
                self.check_no_kinds(row, kinds)
        for index in (-1, len(rows), len(rows) + 1, -len(rows) - 1):
            self.check_no_index(row, index)
        self.assertIs(row.source, book)

    def check_no_kinds(self, row, thing):
        with self.assertRaises(NoKinds) as caught:
            row.number_of(thing)
        self.assertIs(caught.exception.__class__, NoKinds)
        self.assertEqual(list(vars(caught.exception)), ["kinds"])
        self.assertIs(caught.exception.kinds, thing)

    def check_no_index(self, row, thing):
        with self.assertRaises(NoIndex) as caught:
            row[thing]
        self.assertIs(caught.exception.__class__, NoIndex)
        self.assertEqual(list(vars(caught.exception)), ["index"])
        self.assertIs(caught.exception.index, thing)


class BooksTest(CountedTest):
    def test_edges(self):
        self.check_rows(Book(0, 0), [()])
        self.check_rows(Book(8, 0), [()])
        self.check_rows(Book(0, 1), [(E,), (L,)])
        for book in (Book(0, 8), Book(8, 8)):
            self.assertEqual([count_fits(book), early_counts(book)], [256, (128,) * 8])
            self.check_rows(book, sorted(all_kinds(book)))
        self.check_rows(Book(1, 0, [], [], [(0, "least", 1), (0, "most", 0)]), [])
        self.check_rows(Book(2, 0, [], [(0, 1, 1), (1, 0, 0)]), [])

    def test_clauses(self):
        self.check_rows(Book(0, 2, [], [], [], [(0, E, 1, L)]), [(E, E), (E, L), (L, L)])
        self.check_rows(Book(0, 2, [], [], [], [(1, E, 0, E)]), [(E, E), (E, L), (L, E)])
        self.check_rows(Book(0, 2, [], [], [], [(1, L, 0, L)]), [(E, L), (L, E), (L, L)])
        self.check_rows(Book(0, 2, [], [], [], [(1, L, 1, L)]), [(E, L), (L, L)])
        self.check_rows(Book(0, 2, [], [], [], [(1, L, 1, E)]), [(E, E), (E, L), (L, E), (L, L)])
        self.check_rows(Book(0, 1, [], [], [], [(0, E, 0, E), (0, L, 0, L)]), [])

    def test_tellings(self):
        self.check_rows(Book(1, 3, [(0, 0, 5), (1, 0, 7), (2, 0, 9)]), [(E, E, E), (E, E, L), (E, L, L), (L, L, L)])
        self.check_rows(Book(1, 3, [(0, 0, 5), (1, 0, 7), (2, 0, 9)], [], [(0, "least", 6)]),
                        [(E, E, E), (E, E, L), (E, L, L)])
        self.check_rows(Book(1, 1, [(0, 0, 5)], [], [(0, "least", 6)]), [(E,)])
        self.check_rows(Book(2, 2, [(0, 0, 5), (1, 1, 7)], [(0, 1, 3)]), [(E, E), (L, E), (L, L)])

    def test_great_numbers(self):
        far = 10 ** 12
        for more, rows in ((0, all_kinds(Book(0, 2))), (1, [(E, E), (L, E), (L, L)])):
            self.check_rows(Book(8, 2, [(0, 0, -far), (1, 2, far - more)], [(0, 1, far), (1, 2, far)]), rows)

    def test_no_fit_is_no_error(self):
        for book in unfit_books():
            self.check_rows(book, [])

    def test_small_books_against_all_kinds_and_times(self):
        counts = []
        for book in mixed_books("counted", 150, events=(0, 2), witnesses=(0, 3)):
            self.check_rows(book, kinds_that_fit(book, 4))
            counts.append(count_fits(book))
        self.assertTrue(counts.count(0) > 20 and len(set(counts)) > 5, counts)

    def test_books_as_they_come(self):
        counts = []
        for book in mixed_books("more counted", 200, events=(0, 4), witnesses=(2, 6), items=(0, 6), numbers=(-9, 9),
                                gaps=(-20, 3), clauses=(0, 6)):
            self.check_rows(book, rows_of(book))
            counts.append(count_fits(book))
        self.assertGreater(len(set(counts)), 10)

    def test_turned_and_more(self):
        # [11] and [12]
        for book in mixed_books("counted turned", 60, events=(1, 3), witnesses=(1, 4), items=(0, 4), gaps=(-5, 0)):
            turned = sorted(tuple(CONTRARY[kind] for kind in kinds) for kinds in Fits(book))
            self.assertEqual(list(Fits(book.turned())), turned)
            self.assertEqual(list(Fits(book.moved(99))), list(Fits(book)))
            more = book.with_telling(0, 0, 1).with_known(book.witnesses - 1, E)
            self.assertTrue(all(kinds in Fits(book) for kinds in Fits(more)))

    def test_great_books_in_good_time(self):
        loose = Book(8, 8, [(at % 8, at % 8, 5) for at in range(20)], [(at % 8, (at + 3) % 8, -at) for at in range(20)],
                     [(at % 8, "least", -99) for at in range(20)], [(at % 8, E, at % 8, L) for at in range(20)])
        self.assertEqual(count_fits(loose), 256)
        for book in [loose] + planted_books("quick", 2, slack=9) + planted_books("quicker", 3, slack=99, clauses=3):
            check_quick(self, 2, count_fits, book)
            check_quick(self, 2, early_counts, book)
            check_quick(self, 2, Fits, book)
            self.check_rows(book, rows_of(book))

    def test_the_book_stays(self):
        book = Book(2, 3, [(0, 0, 5), (1, 1, 3)], [(0, 1, 2)], [(1, "most", 6)], [(0, L, 1, E)])
        check_unchanged(self, book, count_fits, early_counts, lambda some: list(Fits(some)),
                        lambda some: Fits(some)[1], lambda some: Fits(some).number_of((L, L, E)))


class FitsTest(CountedTest):
    book = Book(1, 3, [(0, 0, 5), (1, 0, 7), (2, 0, 9)])
    rows = [(E, E, E), (E, E, L), (E, L, L), (L, L, L)]

    def test_indexes(self):
        row = Fits(self.book)
        self.assertEqual([row[0], row[3]], [(E, E, E), (L, L, L)])
        for thing in NO_INTEGERS + [-1, -2, -4, 4, 5, 10 ** 30, -10 ** 30, slice(0, 1), slice(None), (E, E, E), row]:
            self.check_no_index(row, thing)

    def test_truths_are_no_indexes(self):
        for thing in (True, False):
            self.check_no_index(Fits(self.book), thing)
            self.check_no_index(Fits(Book(0, 0)), thing)

    def test_no_index_of_an_empty_row(self):
        for book in unfit_books():
            row = Fits(book)
            self.assertEqual([len(row), list(row)], [0, []])
            for thing in (0, -1, 1, True, None):
                self.check_no_index(row, thing)
            self.check_no_kinds(row, (E, E))

    def test_any_value(self):
        row = Fits(self.book)
        others = NEITHER + [SameAsAll(), row, self.book, 0, 1, (), [], E, "eee", [E, E, E], (E, E), (E, E, E, E),
                            ((E, E, E),), (E, E, (E,)), [(E, E, E)], (0, 0, 0), (True, True, True), (None,) * 3,
                            (E, L, E), explained(self.book), explained(self.book)[1:], ([], [], []), ({}, {}, {}),
                            (SameAsAll(), SameAsAll(), SameAsAll()), 0.5, NoKinds((E, E, E))]
        others += [(E, thing, E) for thing in NO_KINDS] + [(thing,) * 3 for thing in NO_KINDS]
        for thing in others:
            self.assertIs(thing in row, False, thing)
            self.check_no_kinds(row, thing)

    def test_kinds_with_a_part_altered(self):
        row = Fits(self.book)
        for index, kinds in enumerate(self.rows):
            self.assertIs(kinds in row, True)
            self.assertEqual(row.number_of(kinds), index)
            for thing in altered(kinds):
                self.assertIs(thing in row, repr(thing) in [repr(some) for some in self.rows])

    def test_kinds_made_otherwise(self):
        row = Fits(self.book)
        self.assertIs(tuple(["ear" + "ly", "".join(["l", "a", "te"]), "late"]) in row, True)
        self.assertEqual(row.number_of(tuple("early late late".split())), 2)

    def test_source(self):
        for book in (self.book, Book(0, 0), unfit_books()[0]):
            self.assertIs(Fits(book).source, book)
            with self.assertRaises(AttributeError):
                Fits(book).source = book

    def test_iterating_twice_and_beside_one_another(self):
        row = Fits(self.book)
        self.assertEqual(list(row), list(row))
        self.assertEqual([(one, other) for one in row for other in row],
                         [(one, other) for one in self.rows for other in self.rows])
        steps = iter(row)
        self.assertEqual([next(steps), list(row), next(steps)], [self.rows[0], self.rows, self.rows[1]])

    def test_what_is_taken_from_it_changes_nothing(self):
        row = Fits(self.book)
        taken = list(row)
        taken.clear()
        self.assertEqual([list(row), len(row), row[0], row.source == self.book], [self.rows, 4, (E, E, E), True])

    def test_each_of_them_fits(self):
        for kinds in all_kinds(self.book):
            self.assertIs(fits(self.book, kinds), kinds in Fits(self.book))

    def test_errors_by_their_fields(self):
        row = Fits(self.book)
        check_raised(self, NoIndex, {"index": 4}, lambda: row[4])
        check_raised(self, NoKinds, {"kinds": (E, L, E)}, row.number_of, (E, L, E))


class ExamplesTest(unittest.TestCase):
    def test_examples_of_the_document(self):
        book = Book(2, 3, [(0, 0, 5), (1, 0, 3), (1, 1, 9), (2, 1, 4)], [(0, 1, 2)], [(0, "least", 4)])
        row = Fits(book)
        self.assertEqual([count_fits(book), early_counts(book), len(row), row[1], row.number_of((E, E, E))],
                         [2, (1, 2, 2), 2, (L, E, E), 0])


if __name__ == "__main__":
    unittest.main()
