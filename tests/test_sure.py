"""[50] sure, with [2], [3], [4], [6], [10] and [11]."""

import unittest

from earlyorlate.books import Book
from earlyorlate.sure import groups, kinds_of, sure_kind, sure_kinds, why_kind
from earlyorlate.reasons import is_reason
from tests.checks import check_no_fit, check_quick, check_unchanged, unfit_books
from tests.helper import KINDS
from tests.oracle import CONTRARY, all_literals, is_true_reason, kinds_that_fit, mixed_books, planted_books, rows_of

E, L = "early", "late"


def groups_by(rows, witnesses):
    """What groups returns where these are all kinds that fit."""
    found = []
    for w in range(witnesses):
        if all(w not in ones + others for ones, others in found):
            like = [[row[v] == row[w] for row in rows] for v in range(witnesses)]
            found.append(([v for v in range(witnesses) if all(like[v])], [v for v in range(witnesses) if not any(like[v])]))
    return found


class SureTest(unittest.TestCase):
    def check_rows(self, book, rows):
        """Check all functions of a book with an explanation, of which these are all kinds that fit."""
        for w in range(book.witnesses):
            kinds = sorted({row[w] for row in rows})
            self.assertEqual(kinds_of(book, w), kinds)
            self.assertEqual(sure_kind(book, w), kinds[0] if len(kinds) == 1 else None)
        known = [(w, kind) for w, kind in all_literals(book) if all(row[w] == kind for row in rows)]
        self.assertEqual(sure_kinds(book), known)
        for one in all_literals(book):
            self.check_why(book, *one, one in known)
        self.check_groups(book, rows)

    def check_why(self, book, w, kind, is_sure):
        found = why_kind(book, w, kind)
        if not is_sure:
            self.assertIsNone(found)
            return
        contrary = book.with_known(w, CONTRARY[kind])
        self.assertEqual(contrary.clauses[len(book.clauses):], ((w, CONTRARY[kind], w, CONTRARY[kind]),))
        self.assertTrue(is_true_reason(contrary, found), found)
        self.assertIs(is_reason(contrary, found), True)

    def check_groups(self, book, rows):
        found = groups(book)
        self.assertEqual(found, groups_by(rows, book.witnesses))
        self.assertTrue(all(ones.__class__ is list and others.__class__ is list for ones, others in found))
        self.assertEqual(sorted(w for ones, others in found for w in ones + others), list(range(book.witnesses)))
        self.assertTrue(all(ones[0] == min(ones + others) for ones, others in found))
        self.assertEqual(found, sorted(found))

    def check_book(self, book):
        """Check a book by going through all kinds; return how many fit."""
        rows = rows_of(book)
        if rows:
            self.check_rows(book, rows)
        else:
            self.check_none(book)
        return len(rows)

    def check_none(self, book):
        """Check a book that has no explanation."""
        check_no_fit(self, book, sure_kinds)
        check_no_fit(self, book, groups)
        for w in range(book.witnesses):
            check_no_fit(self, book, kinds_of, w)
            check_no_fit(self, book, sure_kind, w)
            for kind in KINDS:
                check_no_fit(self, book, why_kind, w, kind)


class FewTest(SureTest):
    def test_edges(self):
        self.assertEqual([sure_kinds(Book(0, 0)), groups(Book(0, 0))], [[], []])
        self.assertEqual([sure_kinds(Book(8, 0)), groups(Book(8, 0))], [[], []])
        for book in (Book(0, 8), Book(8, 8)):
            self.assertEqual(groups(book), [([w], []) for w in range(8)])
            self.assertEqual(self.check_book(book), 256)

    def test_clauses(self):
        book = Book(0, 3, [], [], [], [(0, E, 0, E), (2, L, 2, L)])
        self.assertEqual([kinds_of(book, w) for w in range(3)], [[E], [E, L], [L]])
        self.assertEqual([sure_kind(book, w) for w in range(3)], [E, None, L])
        self.assertEqual([sure_kinds(book), groups(book)], [[(0, E), (2, L)], [([0], [2]), ([1], [])]])
        self.check_book(book)
        book = Book(0, 3, [], [], [], [(0, E, 0, L), (1, E, 1, E), (1, L, 2, E)])
        self.assertEqual([sure_kinds(book), groups(book)], [[(1, E), (2, E)], [([0], []), ([1, 2], [])]])
        self.check_book(book)

    def test_groups(self):
        alike = [(0, E, 2, L), (0, L, 2, E)]
        unlike = [(2, E, 1, E), (2, L, 1, L)]
        for clauses, found in ((alike, [([0, 2], []), ([1], []), ([3], [])]),
                               (unlike, [([0], []), ([1], [2]), ([3], [])]),
                               (alike + unlike, [([0, 2], [1]), ([3], [])]),
                               (alike + unlike + [(3, L, 3, L)], [([0, 2], [1]), ([3], [])]),
                               (alike + unlike + [(3, L, 3, L), (1, E, 1, E)], [([0, 2, 3], [1])]),
                               (alike[:1] + unlike[:1], [([w], []) for w in range(4)])):
            book = Book(0, 4, [], [], [], clauses)
            self.assertEqual(groups(book), found)
            self.check_book(book)
            self.check_book(book.turned())

    def test_the_least_one_stands_in_the_first_list(self):
        book = Book(0, 4, [], [], [], [(0, L, 3, L), (0, E, 3, E), (1, E, 1, E), (2, L, 2, L)])
        self.assertEqual(groups(book), [([0], [3]), ([1], [2])])
        book = Book(0, 4, [], [], [], [(0, L, 0, L), (1, E, 1, E), (2, L, 2, L), (3, E, 3, E)])
        self.assertEqual(groups(book), [([0, 2], [1, 3])])

    def test_tellings(self):
        book = Book(1, 3, [(0, 0, 5), (1, 0, 4), (2, 0, 9)], [], [(0, "least", 5), (0, "most", 8)])
        self.assertEqual(sure_kinds(book), [(1, E), (2, L)])
        self.assertEqual(groups(book), [([0], []), ([1], [2])])
        self.check_book(book)
        self.check_book(Book(1, 2, [(0, 0, 5), (1, 0, 4)], [], [], [(1, L, 1, L)]))
        self.check_book(Book(2, 2, [(0, 0, 5), (1, 1, 7)], [(0, 1, 3)], [], [(0, E, 0, E)]))
        self.check_book(Book(2, 2, [(0, 0, 5), (1, 1, 7)], [(0, 1, 2)], [], [(0, E, 0, E)]))

    def test_one_who_told_both_sides_of_a_window(self):
        book = Book(1, 1, [(0, 0, 5)], [], [(0, "least", 6)])
        self.assertEqual([kinds_of(book, 0), sure_kind(book, 0), why_kind(book, 0, L)], [[E], E, None])
        self.check_book(book)
        self.assertEqual(self.check_book(book.with_telling(0, 0, 7)), 1)
        self.assertEqual(self.check_book(book.with_telling(0, 0, 7).with_sure(0, "most", 6)), 0)

    def test_great_numbers(self):
        far = 10 ** 12
        for more in (0, 1):
            book = Book(8, 2, [(0, 0, -far), (1, 2, far - more)], [(0, 1, far), (1, 2, far), (3, 7, far)],
                        [(0, "least", -far), (7, "most", far)], [(0, E, 0, E)])
            self.assertEqual(sure_kinds(book), [(0, E)] + [(1, E)] * more)
            self.check_book(book)

    def test_no_fit(self):
        for book in unfit_books():
            self.check_none(book)


class BooksTest(SureTest):
    def test_small_books_against_all_kinds_and_times(self):
        many = 0
        for book in mixed_books("sure", 120, events=(0, 2), witnesses=(0, 3)):
            rows = kinds_that_fit(book, 4)
            if rows:
                self.check_rows(book, rows)
                many += 1
            else:
                self.check_none(book)
        self.assertGreater(many, 40)

    def test_books_as_they_come(self):
        fitting = [self.check_book(book) for book in
                   mixed_books("more sure", 250, events=(0, 4), witnesses=(1, 5), items=(0, 5), numbers=(-9, 9),
                               gaps=(-20, 3), clauses=(0, 5))]
        self.assertTrue(fitting.count(0) > 30 and len([many for many in fitting if many > 2]) > 50, fitting)

    def test_turned(self):
        # [11]
        for book in mixed_books("sure turned", 60, events=(1, 3), witnesses=(1, 3), items=(0, 4), gaps=(-5, 0)):
            if rows_of(book):
                turned = [(w, CONTRARY[kind]) for w, kind in sure_kinds(book)]
                self.assertEqual(sure_kinds(book.turned()), turned)
                self.assertEqual(groups(book.turned()), groups(book))
                self.assertEqual(groups(book.moved(-7)), groups(book))

    def test_great_books_in_good_time(self):
        loose = Book(8, 8, [(at % 8, at % 8, 5) for at in range(20)], [(at % 8, (at + 3) % 8, -at) for at in range(20)],
                     [(at % 8, "least", -99) for at in range(20)], [(at % 8, E, at % 8, L) for at in range(20)])
        for book in [loose] + planted_books("quick", 2, slack=9) + planted_books("quicker", 3, slack=99, clauses=3):
            for call, more in ((kinds_of, [3]), (sure_kind, [3]), (sure_kinds, []), (why_kind, [3, E]), (groups, [])):
                check_quick(self, 2, call, book, *more)
            self.assertGreater(self.check_book(book), 0)

    def test_20_clauses_already(self):
        book = Book(0, 8, [], [], [], [(w, E, w, E) for w in range(7)] + [(w, E, w + 1, L) for w in range(7)]
                    + [(w, L, w, E) for w in range(6)])
        self.assertEqual(len(book.clauses), 20)
        self.assertEqual(self.check_book(book), 2)

    def test_the_book_stays(self):
        book = Book(2, 3, [(0, 0, 5), (1, 1, 3)], [(0, 1, 2)], [(1, "most", 6)], [(0, L, 1, E)])
        check_unchanged(self, book, sure_kinds, groups, lambda some: kinds_of(some, 0), lambda some: sure_kind(some, 1),
                        lambda some: why_kind(some, 0, L), lambda some: why_kind(some, 0, E))


class ExamplesTest(unittest.TestCase):
    def test_examples_of_the_document(self):
        book = Book(2, 3, [(0, 0, 5), (1, 0, 3), (1, 1, 9), (2, 1, 4)], [(0, 1, 2)], [(0, "least", 4)])
        self.assertEqual([kinds_of(book, 0), sure_kind(book, 0), sure_kinds(book), groups(book), why_kind(book, 0, L)],
                         [[E, L], None, [(1, E), (2, E)], [([0], []), ([1, 2], [])], None])


if __name__ == "__main__":
    unittest.main()
