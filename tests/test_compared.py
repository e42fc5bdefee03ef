"""[90] compared: implies, parting, alike and contraries, with [2], [3], [4], [10], [11] and [12]."""

import unittest
from itertools import product

from earlyorlate.books import Book
from earlyorlate.compared import alike, are_whys, contraries, implies, parting, whys
from earlyorlate.errors import Unequal
from earlyorlate.fits import has_fit, is_explanation
from tests.checks import check_passed_stays, check_quick, check_unchanged, unfit_books
from tests.helper import KINDS, NEITHER, SIDES, check_raised
from tests.oracle import holds, mixed_books, planted_books
from tests.saying import PARTS, explanations, items_of, made, pairs_of_books, says_all, true_contraries, with_items

E, L = "early", "late"
GREAT = 10 ** 12
GREATER = 10 ** 13


class ComparedTest(unittest.TestCase):
    def check_pair(self, one, other, right):
        """Check implies and parting of books of which the one implies the other, or not."""
        self.assertIs(implies(one, other), right, (items_of(one), items_of(other)))
        found = parting(one, other)
        if right:
            self.assertIsNone(found)
            return
        self.assertEqual([found.__class__, len(found)], [tuple, 2])
        self.assertTrue(holds(one, *found), found)
        self.assertFalse(holds(other, *found), found)
        self.assertEqual([is_explanation(one, found), is_explanation(other, found)], [True, False])

    def check_pairs(self, pairs, is_right):
        """Check pairs of books, and both of each as alike or not; return how many are so, and how many are not."""
        many = {True: 0, False: 0, "alike": 0}
        for one, other in pairs:
            there, back = is_right(one, other), is_right(other, one)
            self.check_pair(one, other, there)
            self.check_pair(other, one, back)
            self.assertIs(alike(one, other), there and back)
            self.assertIs(alike(other, one), there and back)
            many[there] += 1
            many["alike"] += there and back and one != other
        return many


class FewTest(ComparedTest):
    book = Book(3, 2, [(0, 0, 5)], [(0, 1, 4), (1, 2, 3)], [(0, "least", 2), (2, "most", 30)], [(0, E, 1, E)])

    def check_items(self, sort, said, not_said, book=None):
        book = book or self.book
        for items, right in ((said, True), (not_said, False)):
            for item in items:
                self.check_pair(book, made(book, [(sort, item)]), right)

    def test_gaps(self):
        self.check_items("gaps", [(0, 1, 4), (0, 1, 3), (0, 1, -GREAT), (1, 2, 3), (0, 2, 7), (2, 0, -28), (1, 0, -25)],
                         [(0, 1, 5), (1, 2, 4), (0, 2, 8), (1, 0, -4), (2, 0, -27), (0, 1, GREAT), (2, 1, -24 + 1)])

    def test_bounds(self):
        self.check_items("sure", [(0, "least", 2), (0, "least", 1), (1, "least", 6), (2, "least", 9), (2, "most", 30),
                                  (2, "most", 31), (1, "most", 27), (0, "most", 23), (0, "least", -GREAT), (0, "most", GREAT)],
                         [(0, "least", 3), (1, "least", 7), (2, "least", 10), (2, "most", 29), (1, "most", 26), (0, "most", 22)])

    def test_clauses(self):
        self.check_items("clauses", [(0, E, 1, E), (1, E, 0, E), (0, E, 0, L), (1, L, 1, E)],
                         [(0, E, 0, E), (0, E, 1, L), (0, L, 1, L), (1, L, 1, L), (0, L, 1, E)])

    def test_clauses_that_follow(self):
        book = Book(1, 3, [(2, 0, 5)], [], [(0, "most", 4)], [(0, L, 1, E), (1, L, 2, E)])
        self.check_items("clauses", [(2, L, 2, L), (1, L, 1, L), (0, L, 0, L), (0, L, 2, E), (1, L, 0, E), (0, L, 2, L)],
                         [(0, E, 0, E), (2, E, 1, E), (0, E, 1, E), (0, E, 2, E)], book)

    def test_tellings(self):
        # Whoever told 5 says less with 4 if early, but more if late.
        self.check_items("tellings", [(0, 0, 5)], [(0, 0, 4), (0, 0, 6), (1, 0, 5), (0, 1, 5)])
        early = self.book.with_known(0, E)
        self.check_items("tellings", [(0, 0, 5), (0, 0, 4), (0, 1, 9), (0, 2, 12), (0, 2, -GREAT)], [(0, 0, 6), (0, 1, 10)], early)
        late = self.book.with_known(0, L)
        self.check_items("tellings", [(0, 0, 5), (0, 0, 6), (0, 2, 30), (0, 0, GREAT)], [(0, 0, 4), (0, 1, 9), (1, 0, 3)], late)

    def test_tellings_by_bounds_on_both_sides(self):
        shut = Book(1, 1, [], [], [(0, "least", 5), (0, "most", 5)])
        self.check_items("tellings", [(0, 0, 5)], [(0, 0, 4), (0, 0, 6)], shut)
        self.check_pair(shut, shut.with_telling(0, 0, 5), True)

    def test_the_same_said_otherwise(self):
        one = Book(2, 1, [], [(0, 1, 2), (0, 1, 1)], [(0, "least", 4)], [(0, E, 0, E)])
        other = Book(2, 1, [], [(0, 1, 2)], [(1, "least", 6), (0, "least", 4)], [(0, E, 0, E), (0, E, 0, L)])
        self.assertIs(alike(one, other), True)
        self.assertIs(alike(one, other.with_sure(0, "least", 5)), False)
        self.assertIs(alike(one.with_sure(0, "most", 3), Book(2, 1, [], [(0, 1, 1), (1, 0, 0)])), True)

    def test_nothing_said(self):
        for events, witnesses in product((0, 8), (0, 8)):
            book = Book(events, witnesses)
            self.assertEqual([implies(book, book), parting(book, book), alike(book, book), whys(book, book)],
                             [True, None, True, []])

    def test_books_without_an_explanation_imply_each(self):
        for book in unfit_books():
            for other in unfit_books() + [Book(3, 2), Book(3, 2, [(0, 0, 5)], [(0, 1, 4)], [(2, "most", 4)], [(0, E, 1, L)])]:
                self.check_pair(book, other, True)
                self.assertIs(alike(book, other), not has_fit(other))
                self.check_pair(other, book, not has_fit(other))

    def test_great_numbers(self):
        book = Book(8, 1, [(0, 0, GREAT)], [(a, a + 1, GREAT) for a in range(7)], [], [(0, E, 0, E)])
        self.check_items("gaps", [(0, 1, GREAT), (3, 5, GREAT)], [(1, 0, -GREAT)], book)
        self.check_items("sure", [(7, "least", GREAT)], [(0, "least", GREAT + 1), (7, "most", GREAT)], book)
        self.check_items("tellings", [(0, 7, GREAT)], [(0, 0, GREAT + 1)], book)


class BooksTest(ComparedTest):
    def test_small_books_against_all_kinds_and_times(self):
        books = mixed_books("implies", 90, events=(0, 2), witnesses=(0, 2), items=(0, 3), numbers=(-2, 2))

        def is_right(one, other):
            return explanations(one, 8) <= explanations(other, 8)

        many = self.check_pairs(pairs_of_books("implies", books), is_right)
        self.assertTrue(all(number > 12 for number in many.values()), many)

    def test_books_as_they_come(self):
        books = mixed_books("compared", 90, events=(1, 3), witnesses=(0, 4), items=(1, 5), numbers=(-4, 4), gaps=(-6, 1))
        many = self.check_pairs(pairs_of_books("compared", books), says_all)
        self.assertTrue(all(number > 12 for number in many.values()), many)

    def test_more_items(self):
        # No explanation is gained, and none is lost if the items are said already.
        for book in mixed_books("more said", 50, events=(1, 3), witnesses=(1, 3)):
            more = with_items(book, *items_of(book))
            self.assertIs(alike(book, more), True)
            for sort, item in items_of(mixed_books("other " + repr(items_of(book)), 1, (book.events,) * 2,
                                                   (book.witnesses,) * 2)[0]):
                self.assertIs(implies(with_items(book, (sort, item)), book), True)
                self.assertIs(alike(with_items(book, (sort, item)), book), implies(book, with_items(book, (sort, item))))

    def test_turned_moved_and_renamed(self):
        books = mixed_books("turned pairs", 40, events=(2, 3), witnesses=(2, 2), items=(0, 4))
        for one, other in pairs_of_books("turned pairs", books):
            right = implies(one, other)
            self.assertIs(implies(one.turned(), other.turned()), right)
            self.assertIs(implies(one.moved(7), other.moved(7)), right)
            names = list(range(1, one.events)) + [0], [1, 0]
            self.assertIs(implies(one.renamed(*names), other.renamed(*names)), right)

    def test_great_books_in_good_time(self):
        for book in planted_books("compared", 2) + planted_books("compared too", 2, slack=2):
            fewer = made(book, items_of(book)[::3])
            self.assertEqual(check_quick(self, 2, implies, book, fewer), True)
            self.assertEqual(check_quick(self, 2, alike, book, book), True)
            found = check_quick(self, 2, parting, fewer, book)
            self.assertIs(check_quick(self, 2, implies, fewer, book), found is None)
            self.assertEqual(check_quick(self, 2, alike, fewer, book), found is None)
            if found is not None:
                self.assertTrue(holds(fewer, *found) and not holds(book, *found))

    def test_what_is_passed_stays(self):
        one = Book(2, 2, [(0, 0, 5), (1, 1, 4)], [(0, 1, 3)], [(0, "least", 4)], [(0, E, 1, L)])
        other = Book(2, 2, [(0, 0, 5)], [(0, 1, 2)], [(1, "least", 7)], [])
        for call in (implies, parting, alike, whys):
            check_passed_stays(self, call, one, other)
            check_passed_stays(self, call, other, one)
        check_unchanged(self, one, lambda some: whys(some, other), lambda some: contraries(some, "tellings", (0, 0, 4)),
                        lambda some: contraries(some, "clauses", (0, E, 1, L)))
        check_passed_stays(self, are_whys, one, other, whys(one, other))


class UnequalTest(unittest.TestCase):
    def test_ahead_of_all_else(self):
        books = [Book(2, 3), Book(3, 2), Book(2, 2), Book(3, 3), Book(0, 0), Book(8, 0), unfit_books()[0]]
        for one, other in product(books, repeat=2):
            sizes = [(book.events, book.witnesses) for book in (one, other)]
            if sizes[0] != sizes[1]:
                fields = {"one": sizes[0], "other": sizes[1]}
                for call in (implies, parting, alike, whys):
                    check_raised(self, Unequal, fields, call, one, other)
                for thing in NEITHER + [[], [()], whys(one, one)]:
                    check_raised(self, Unequal, fields, are_whys, one, other, thing)


class ContrariesTest(unittest.TestCase):
    def check_contraries(self, book, sort, item, right):
        found = contraries(book, sort, item)
        self.assertIs(found.__class__, list)
        self.assertEqual([some.__class__ for some in found], [Book] * len(right))
        self.assertEqual(found, right)
        self.assertEqual(found, true_contraries(book, sort, item))

    def check_all(self, book):
        for w, e, x in product(range(book.witnesses), range(book.events), (-GREATER, -3, 0, GREATER)):
            right = [book.with_known(w, "early").with_sure(e, "most", x - 1),
                     book.with_known(w, "late").with_sure(e, "least", x + 1)]
            self.check_contraries(book, "tellings", (w, e, x), right)
        for a, b, g in product(range(book.events), range(book.events), (-GREATER, 0, 1, GREATER)):
            if a != b:
                self.check_contraries(book, "gaps", (a, b, g), [book.with_gap(b, a, 1 - g)])
        for e, x in product(range(book.events), (-GREATER, 0, 1, GREATER)):
            self.check_contraries(book, "sure", (e, "least", x), [book.with_sure(e, "most", x - 1)])
            self.check_contraries(book, "sure", (e, "most", x), [book.with_sure(e, "least", x + 1)])
        contrary = {E: L, L: E}
        for w, kind, v, other in product(range(book.witnesses), KINDS, range(book.witnesses), KINDS):
            right = [book.with_known(w, contrary[kind]).with_known(v, contrary[other])]
            self.check_contraries(book, "clauses", (w, kind, v, other), right)

    def test_few_items(self):
        self.check_all(Book(2, 2))
        self.check_all(Book(3, 2, [(0, 0, 5)], [(0, 1, 4)], [(0, "least", 2), (2, "most", 30)], [(0, E, 1, E)]))

    def test_full_parts(self):
        book = planted_books("contraries", 1)[0]
        self.assertEqual([len(part) for part in (book.tellings, book.gaps, book.sure, book.clauses)], [20] * 4)
        self.check_all(book)

    def test_an_item_is_sure_exactly_if_none_has_an_explanation(self):
        for book in mixed_books("contraries", 60, events=(1, 2), witnesses=(1, 2)):
            for sort in PARTS:
                for item in getattr(book, sort):
                    self.assertFalse(any(has_fit(some) for some in contraries(book, sort, item)))


class ExamplesTest(unittest.TestCase):
    def test_examples_of_the_document(self):
        twice = Book(2, 0, [], [(0, 1, 4), (0, 1, 3), (0, 1, 4)])
        self.assertIs(alike(twice, Book(2, 0, [], [(0, 1, 4)])), True)
        self.assertEqual([implies(twice, Book(2, 0, [], [(0, 1, 5)])), contraries(twice, "gaps", (0, 1, 5))[0].gaps[-1],
                          implies(Book(2, 0, [], [(0, 1, 5)]), twice)],
                         [False, (1, 0, -4), True])

    def test_sides(self):
        book = Book(1, 0)
        self.assertEqual([contraries(book, "sure", (0, side, 5))[0].sure for side in SIDES],
                         [((0, "most", 4),), ((0, "least", 6),)])


if __name__ == "__main__":
    unittest.main()
