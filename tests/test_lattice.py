"""[60] lattice, with [2], [3], [4], [8] and [9]."""

import unittest
from itertools import combinations, product

from earlyorlate.books import Book
from earlyorlate.errors import NotPlain, Unequal
from earlyorlate.fits import is_explanation
from earlyorlate.lattice import fewest_early, joined, median, met, most_early
from tests.checks import check_no_fit, check_passed_stays, check_quick, check_unchanged, unfit_books
from tests.helper import FAR, check_raised
from tests.oracle import all_kinds, ends_of, holds, mixed_books, plain, planted_books, rows_of

E, L = "early", "late"


def of_sizes(witnesses, events):
    """Kinds and times."""
    return ((E, L) * 4)[:witnesses], tuple(range(events))


def some_explanations(book, reach):
    """Explanations of a small book."""
    return [(kinds, times) for kinds in all_kinds(book)
            for times in product(range(-reach, reach + 1), repeat=book.events) if holds(book, kinds, times)]


class MedianTest(unittest.TestCase):
    def test_all_kinds_of_three(self):
        for one, two, three in product((E, L), repeat=3):
            kind = E if [one, two, three].count(E) > 1 else L
            self.assertEqual(median(((one,), ()), ((two,), ()), ((three,), ())), ((kind,), ()))

    def test_all_times_of_three(self):
        for one, two, three in product((-2, 0, 7), repeat=3):
            times = (sorted((one, two, three))[1],)
            self.assertEqual(median(((), (one,)), ((), (two,)), ((), (three,))), ((), times))

    def test_several(self):
        self.assertEqual(median(((E, L, E), (1, 20, -5, 0)), ((L, L, E), (2, 10, -6, 0)), ((E, E, L), (3, 30, -7, 1))),
                         ((E, L, E), (2, 20, -6, 0)))

    def test_sizes(self):
        for witnesses, events in product((0, 1, 8), repeat=2):
            one = of_sizes(witnesses, events)
            other = one[0][::-1], one[1][::-1]
            for three in ((one, one, other), (one, other, one), (other, one, one), (one, one, one)):
                self.assertEqual(median(*three), one)

    def test_great_times(self):
        self.assertEqual(median(((), (FAR ** 3,)), ((), (-FAR ** 3,)), ((), (FAR ** 2,))), ((), (FAR ** 2,)))

    def test_what_is_returned(self):
        kinds, times = median(of_sizes(3, 3), of_sizes(3, 3), of_sizes(3, 3))
        self.assertEqual([kinds.__class__, times.__class__], [tuple, tuple])

    def test_medians_of_explanations_are_explanations(self):
        many = 0
        for book in mixed_books("medians", 40, events=(1, 2), witnesses=(1, 3), items=(0, 3), numbers=(-2, 2),
                                gaps=(-4, 0)):
            for three in combinations(some_explanations(book, 3)[::7][:9], 3):
                self.assertIs(is_explanation(book, median(*three)), True)
                many += 1
        self.assertGreater(many, 300)


class JoinedTest(unittest.TestCase):
    def test_all_kinds_of_two(self):
        for one, other in product((E, L), repeat=2):
            pair = ((one,), ()), ((other,), ())
            self.assertEqual(joined(*pair), ((E if E in (one, other) else L,), ()))
            self.assertEqual(met(*pair), ((L if L in (one, other) else E,), ()))

    def test_all_times_of_two(self):
        for one, other in product((-FAR ** 3, -2, 0, 7, FAR ** 3), repeat=2):
            pair = ((), (one,)), ((), (other,))
            self.assertEqual(joined(*pair), ((), (max(one, other),)))
            self.assertEqual(met(*pair), ((), (min(one, other),)))

    def test_sizes(self):
        for witnesses, events in product((0, 1, 8), repeat=2):
            one = of_sizes(witnesses, events)
            other = (E,) * witnesses, (3,) * events
            self.assertEqual(joined(one, one), one)
            self.assertEqual(met(one, one), one)
            self.assertEqual(joined(one, other), (other[0], tuple(max(3, e) for e in range(events))))
            self.assertEqual(met(other, one), (one[0], tuple(min(3, e) for e in range(events))))

    def test_of_explanations_of_plain_books(self):
        many = 0
        for book in mixed_books("joined", 60, events=(1, 2), witnesses=(1, 3), items=(0, 3), numbers=(-2, 2),
                                gaps=(-3, 0), clauses=(0, 2)):
            for one, other in product(some_explanations(plain(book), 3)[::11][:12], repeat=2):
                self.assertIs(is_explanation(plain(book), joined(one, other)), True)
                self.assertIs(is_explanation(plain(book), met(one, other)), True)
                many += one != other
        self.assertGreater(many, 300)

    def test_what_is_passed_stays(self):
        check_passed_stays(self, median, of_sizes(3, 2), of_sizes(3, 2), ((L, L, L), (9, 9)))
        check_passed_stays(self, joined, of_sizes(3, 2), ((L, L, L), (9, 9)))
        check_passed_stays(self, met, of_sizes(3, 2), ((L, L, L), (9, 9)))


class UnequalTest(unittest.TestCase):
    def test_two(self):
        for call in (joined, met):
            for first, second in product(product((0, 1, 3, 8), repeat=2), repeat=2):
                pair = of_sizes(*first), of_sizes(*second)
                if first == second:
                    call(*pair)
                elif first[0] != second[0]:
                    check_raised(self, Unequal, {"one": first[0], "other": second[0]}, call, *pair)
                else:
                    check_raised(self, Unequal, {"one": first[1], "other": second[1]}, call, *pair)

    def test_three(self):
        sizes = list(product((1, 2, 3), repeat=2))
        for three in product(sizes, repeat=3):
            passed = [of_sizes(*size) for size in three]
            unlike = [(three[0][part], size[part]) for part in (0, 1) for size in three[1:]
                      if size[part] != three[0][part]]
            if unlike:
                check_raised(self, Unequal, {"one": unlike[0][0], "other": unlike[0][1]}, median, *passed)
            else:
                median(*passed)

    def test_witnesses_of_the_last_ahead_of_events_of_the_one_before(self):
        check_raised(self, Unequal, {"one": 2, "other": 3}, median, of_sizes(2, 1), of_sizes(2, 4), of_sizes(3, 1))
        check_raised(self, Unequal, {"one": 1, "other": 4}, median, of_sizes(2, 1), of_sizes(2, 4), of_sizes(2, 5))
        check_raised(self, Unequal, {"one": 1, "other": 5}, median, of_sizes(2, 1), of_sizes(2, 1), of_sizes(2, 5))


class FewestAndMostTest(unittest.TestCase):
    def check_book(self, book):
        """Compare with all kinds that fit; return how many there are."""
        rows = rows_of(book)
        if not rows:
            check_no_fit(self, book, fewest_early)
            check_no_fit(self, book, most_early)
            return 0
        for call, many in ((fewest_early, min(row.count(E) for row in rows)),
                           (most_early, max(row.count(E) for row in rows))):
            self.assertEqual([row for row in rows if row.count(E) == many], [call(book)])
        return len(rows)

    def test_a_few_books(self):
        book = Book(1, 3, [(0, 0, 5), (1, 0, 7), (2, 0, 9)])
        self.assertEqual([fewest_early(book), most_early(book)], [(L, L, L), (E, E, E)])
        known = book.with_known(1, E)
        self.assertEqual([fewest_early(known), most_early(known)], [(E, E, L), (E, E, E)])
        known = book.with_known(1, L)
        self.assertEqual([fewest_early(known), most_early(known)], [(L, L, L), (E, L, L)])
        either = book.with_clause(0, L, 2, E)
        self.assertEqual([fewest_early(either), most_early(either)], [(L, L, L), (E, E, E)])
        bound = either.with_sure(0, "least", 6)
        self.assertEqual([fewest_early(bound), most_early(bound)], [(E, E, E), (E, E, E)])

    def test_edges(self):
        self.assertEqual([fewest_early(Book(0, 0)), most_early(Book(8, 0))], [(), ()])
        self.assertEqual([fewest_early(Book(0, 8)), most_early(Book(8, 8))], [(L,) * 8, (E,) * 8])
        far = Book(2, 2, [(0, 0, -10 ** 12), (1, 1, 10 ** 12 - 1)], [(0, 1, 10 ** 12), (0, 1, 10 ** 12)],
                   [(0, "least", 0)])
        self.assertEqual([fewest_early(far), most_early(far)], [(E, E), (E, E)])

    def test_one_witness_in_a_clause_is_plain(self):
        for clauses in ([(0, E, 0, E)], [(0, L, 0, L)], [(0, E, 0, L)], [(0, E, 1, L), (1, L, 1, L)]):
            self.check_book(Book(0, 2, [], [], [], clauses))

    def test_books_as_they_come(self):
        found = [self.check_book(plain(book)) for book in
                 mixed_books("fewest", 250, events=(0, 3), witnesses=(0, 4), items=(0, 4), numbers=(-3, 3), gaps=(-5, 1),
                             clauses=(0, 3))]
        self.assertTrue(found.count(0) > 30 and len([many for many in found if many > 1]) > 60, found)

    def test_greater_books(self):
        found = [self.check_book(book) for slack in (0, 20, 60)
                 for book in planted_books("fewest", 5, slack=slack, tellings=8, clauses=4, plainly=True)]
        self.assertNotIn(0, found)
        self.assertGreater(len([many for many in found if many > 1]), 2)

    def test_not_plain(self):
        clauses = [(0, E, 1, L), (1, E, 1, E), (0, E, 1, E), (0, L, 1, L)]
        for call in (fewest_early, most_early):
            check_raised(self, NotPlain, {"index": 2}, call, Book(1, 2, [], [], [], clauses))
            check_raised(self, NotPlain, {"index": 2}, call, Book(1, 2, [], [], [], clauses[:3]))
            check_raised(self, NotPlain, {"index": 0}, call, Book(1, 2, [], [], [], clauses[::-1]))

    def test_not_plain_ahead_of_no_fit(self):
        for book in unfit_books():
            self.assertIs(book.is_plain(), True)
            for call in (fewest_early, most_early):
                check_no_fit(self, book, call)
                check_raised(self, NotPlain, {"index": len(book.clauses)}, call, book.with_clause(1, L, 0, L))

    def test_great_books_in_good_time(self):
        for book in planted_books("quick", 5, plainly=True) + planted_books("quicker", 5, slack=0, plainly=True):
            for call, many in ((fewest_early, min), (most_early, max)):
                found = check_quick(self, 2, call, book)
                self.assertEqual(found.count(E), many(row.count(E) for row in rows_of(book)))
        for book in mixed_books("no fit", 5, events=(8, 8), witnesses=(8, 8), items=(20, 20), numbers=(-9, 9), gaps=(-9, 0)):
            for call in (fewest_early, most_early):
                check_quick(self, 2, check_no_fit, self, plain(book), call)

    def test_the_book_stays(self):
        book = Book(2, 3, [(0, 0, 5), (1, 1, 3)], [(0, 1, 2)], [(1, "most", 6)], [(0, L, 2, E)])
        check_unchanged(self, book, fewest_early, most_early)


class ExamplesTest(unittest.TestCase):
    def test_examples_of_the_document(self):
        book = Book(2, 3, [(0, 0, 5), (1, 0, 3), (1, 1, 9), (2, 1, 4)], [(0, 1, 2)], [(0, "least", 4)])
        one, other = ((E, L), (4, 9)), ((L, L), (6, 2))
        self.assertEqual([joined(one, other), met(one, other), median(one, other, one), fewest_early(book),
                          most_early(book)],
                         [((E, L), (6, 9)), ((L, L), (4, 2)), ((E, L), (4, 9)), (L, E, E), (E, E, E)])
        self.assertEqual(ends_of(book, (L, E, E)), ((4, 9), (5, None)))


if __name__ == "__main__":
    unittest.main()
