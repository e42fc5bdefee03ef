"""[70] struck, with [2], [3] and [4]."""

import unittest

from earlyorlate.books import Book
from earlyorlate.errors import NoFit, NotPlain
from earlyorlate.reasons import reason
from earlyorlate.struck import chain, is_chain, is_struck, struck_for
from tests.chains import can_be_helped, fewest, fewest_of_many, is_true_chain, known_books, named, pairs, shortest
from tests.checks import bare_books, check_no_help, check_passed_stays, check_quick, check_unchanged, unfit_books
from tests.helper import SameAsAll, check_raised
from tests.oracle import is_true_reason, mixed_books, plain, planted_books, rows_of

E, L = "early", "late"
GREAT = 10 ** 12


class StruckTest(unittest.TestCase):
    def check_struck_for(self, book, many):
        """Check struck_for of a book of which so many witnesses have to be struck."""
        found = struck_for(book)
        self.assertEqual([found.__class__, len(found)], [tuple, 2])
        witnesses, chains = found
        self.assertEqual([witnesses.__class__, chains.__class__], [list, list])
        self.assertEqual(witnesses, sorted(set(witnesses)))
        self.assertEqual([len(witnesses), len(chains)], [many, many])
        self.assertTrue(rows_of(book.struck(witnesses)))
        for some in chains:
            self.assertIs(some.__class__, list)
            self.assertTrue(is_true_chain(book, some), some)
            self.assertIs(is_chain(book, some), True)
        self.assertEqual(sum(len(named(some)) for some in chains), len({w for some in chains for w in named(some)}))
        self.assertIs(is_struck(book, found), True)

    def check_chain(self, book, many):
        """Check chain of a book whose shortest one has so many steps, or None if it has none."""
        found = chain(book)
        if many is None:
            self.assertIsNone(found)
            return
        self.assertIs(found.__class__, list)
        self.assertEqual(len(found), many)
        self.assertTrue(is_true_chain(book, found), found)
        self.assertIs(is_chain(book, found), True)

    def check_book(self, book):
        """Check all by going through all sets and rows of witnesses; return how many have to be struck."""
        many = fewest(book)
        self.check_struck_for(book, many)
        self.check_chain(book, shortest(book))
        self.assertEqual(chain(book) is None, many == 0)
        return many

    def check_clauses(self, clauses, many, steps, witnesses=8):
        book = Book(0, witnesses, [], [], [], clauses)
        self.check_struck_for(book, many)
        self.check_chain(book, steps)
        order = [3, 6, 0, 7, 5, 1, 4, 2][:witnesses] if witnesses == 8 else list(range(witnesses))[::-1]
        self.check_struck_for(book.renamed([], order), many)
        self.check_chain(book.renamed([], order), steps)
        self.check_struck_for(book.turned(), many)
        self.check_chain(book.turned(), steps)


class ClausesTest(StruckTest):
    def test_one_witness(self):
        self.check_clauses([], 0, None)
        self.check_clauses(pairs(known=[0]), 0, None)
        self.check_clauses(pairs(never=[0]), 0, None)
        self.check_clauses(pairs(known=[1], never=[0]), 0, None)
        self.check_clauses(pairs(known=[0], never=[0]), 1, 2)
        self.check_clauses(pairs(known=[0, 0], never=[0, 0]), 1, 2)
        self.check_clauses(pairs(known=[0, 4, 7], never=[0, 4, 7]), 3, 2)

    def test_rows(self):
        row = [(w, w + 1) for w in range(7)]
        for many in range(2, 9):
            self.check_clauses(pairs(*row, known=[0], never=[many - 1]), 1, many + 1)
            self.check_clauses(pairs(*row, known=[many - 1], never=[0]), 0, None)
            self.check_clauses(pairs(*row[:many - 2], *row[many - 1:], known=[0], never=[7]), 0, None)
        self.check_clauses(pairs(*row, known=[0, 3], never=[5, 7]), 1, 4)

    def test_a_narrow_place(self):
        self.check_clauses(pairs((0, 3), (1, 3), (2, 3), (3, 4), (3, 5), (3, 6), known=[0, 1, 2], never=[4, 5, 6]), 1, 4)
        self.check_clauses(pairs((0, 2), (1, 2), (2, 3), (3, 4), (3, 5), known=[0, 1], never=[4, 5]), 1, 5)
        self.check_clauses(pairs((0, 2), (0, 3), (1, 3), (2, 4), (3, 4), known=[0, 1], never=[4]), 1, 4)

    def test_rows_apart(self):
        self.check_clauses(pairs((0, 1), (2, 3), (4, 5), (6, 7), known=[0, 2, 4, 6], never=[1, 3, 5, 7]), 4, 3)
        self.check_clauses(pairs((0, 1), (1, 2), (3, 4), (4, 5), (0, 4), (3, 1), known=[0, 3], never=[2, 5]), 2, 4)

    def test_a_first_choice_that_has_to_be_taken_back(self):
        # The short row from 0 by 5 to 3 stands in the way of both others.
        self.check_clauses(pairs((0, 1), (1, 2), (2, 3), (4, 5), (5, 3), (0, 5), (5, 6), (6, 7), known=[0, 4],
                                 never=[3, 7]), 2, 4)
        self.check_clauses(pairs((0, 2), (0, 3), (1, 2), (2, 4), (2, 5), (3, 5), known=[0, 1], never=[4, 5]), 2, 4)

    def test_rings_of_clauses(self):
        ring = [(w, (w + 1) % 8) for w in range(8)]
        self.check_clauses(pairs(*ring), 0, None)
        self.check_clauses(pairs(*ring, known=[5]), 0, None)
        self.check_clauses(pairs(*ring, known=[5], never=[4]), 1, 9)
        self.check_clauses(pairs(*ring, *[(v, w) for w, v in ring], known=[0], never=[4]), 1, 6)
        self.check_clauses(pairs(*ring, *[(v, w) for w, v in ring], known=[0, 1], never=[4, 5]), 2, 5)

    def test_all_together(self):
        everyone = [(w, v) for w in range(4) for v in range(4, 8)]
        self.check_clauses(pairs(*everyone, known=range(4), never=range(4, 8)), 4, 3)
        self.check_clauses(pairs(known=range(8), never=range(8)), 8, 2)

    def test_clauses_that_say_nothing(self):
        self.check_clauses([(0, E, 0, L), (1, L, 1, E)], 0, None)
        self.check_clauses([(0, E, 0, L)] + pairs((0, 1), known=[0], never=[1]), 1, 3)

    def test_no_witnesses_and_no_events(self):
        for book in (Book(0, 0), Book(8, 0), Book(8, 8), Book(0, 8), Book(2, 0, [], [(0, 1, 3)], [(1, "least", 4)])):
            self.assertEqual(struck_for(book), ([], []))
            self.assertIsNone(chain(book))
            self.assertIs(is_struck(book, ([], [])), True)
            self.assertIs(is_chain(book, []), False)


class TellingsTest(StruckTest):
    def test_two_bounds_and_one_who_errs_to_both_sides(self):
        sure = [(0, "least", 6), (0, "most", 8)]
        self.assertEqual(self.check_book(Book(1, 2, [(0, 0, 5), (0, 0, 9), (1, 0, 7)], [], sure)), 1)
        self.assertEqual(self.check_book(Book(1, 2, [(0, 0, 6), (0, 0, 9), (1, 0, 7)], [], sure)), 0)

    def test_tellings_beside_one_another(self):
        book = Book(1, 4, [(0, 0, 5), (1, 0, 4), (2, 0, 3), (3, 0, 2)])
        self.assertEqual(self.check_book(book), 0)
        self.assertEqual(self.check_book(book.with_known(1, E)), 0)
        self.assertEqual(self.check_book(book.with_known(0, E).with_known(3, L)), 1)
        self.check_chain(book.with_known(0, E).with_known(3, L), 3)
        self.assertEqual(self.check_book(book.with_known(0, E).with_known(1, E).with_known(2, L).with_known(3, L)), 2)

    def test_ways(self):
        book = Book(3, 2, [(0, 0, 5), (1, 2, 7)], [(0, 1, 2), (1, 2, 1)], [], [(0, E, 0, E), (1, L, 1, L)])
        self.assertEqual(self.check_book(book), 1)
        self.assertEqual(self.check_book(Book(3, 2, [(0, 0, 5), (1, 2, 8)], book.gaps, [], book.clauses)), 0)

    def test_great_numbers(self):
        gaps = [(a, a + 1, GREAT) for a in range(7)]
        for more in (0, 1):
            sure = [(0, "least", -GREAT), (7, "most", GREAT)]
            book = Book(8, 2, [(0, 0, -GREAT), (1, 7, GREAT)], gaps[:1] + [(a, b, 0) for a, b, _ in gaps[1:]], sure)
            self.assertEqual(self.check_book(book), 0)
            book = Book(8, 2, [(0, 0, GREAT), (1, 2, GREAT - more)], [(0, 2, 0)], sure, pairs(known=[0], never=[1]))
            self.assertEqual(self.check_book(book), more)

    def test_20_items_in_each_part(self):
        clauses = pairs((0, 1), (1, 2), (2, 3), (4, 5), (5, 6), (6, 7), known=[0, 4], never=[3, 7]) * 2
        book = Book(8, 8, [(at % 8, at % 8, at) for at in range(20)], [(at % 7, at % 7 + 1, -99) for at in range(20)],
                    [(at % 8, "least", -99) for at in range(20)], clauses)
        self.assertEqual(len(clauses), 20)
        self.check_struck_for(book, fewest_of_many(book))


class BooksTest(StruckTest):
    def test_books_as_they_come(self):
        found = [self.check_book(book) for book in
                 known_books("struck", 250, (0, 5), events=(0, 3), witnesses=(1, 4), items=(1, 5), numbers=(-3, 3),
                             gaps=(-9, -1), clauses=(0, 5))]
        self.assertTrue(found.count(0) > 30 and found.count(1) > 60 and found.count(2) > 20, found)

    def test_greater_books(self):
        found = []
        for book in known_books("greater", 60, (4, 10), events=(3, 8), witnesses=(5, 8), items=(4, 9),
                                numbers=(-30, 30), gaps=(-90, -20), clauses=(2, 10)):
            many = fewest_of_many(book)
            self.check_struck_for(book, many)
            self.assertEqual(chain(book) is None, many == 0)
            found.append(many)
        self.assertTrue(len(set(found)) > 3, found)

    def test_great_books_in_good_time(self):
        crowd = pairs(*[(w, (w + by) % 8) for w in range(8) for by in (1, 3)], known=[0, 1], never=[5, 6])
        told = [(at % 8, at % 8, at) for at in range(20)]
        gaps = [(at % 8, (at + 1 + at // 8) % 8, -at) for at in range(20)]
        sure = [(at % 8, ("least", "most")[at // 8 % 2], (-99, 99)[at // 8 % 2]) for at in range(20)]
        for book in [Book(8, 8, told, gaps, sure, crowd)] + planted_books("quick", 3, plainly=True):
            found = check_quick(self, 2, struck_for, book)
            self.check_struck_for(book, len(found[0]))
            check_quick(self, 2, chain, book)
            self.assertIs(check_quick(self, 2, is_struck, book, found), True)

    def test_the_book_stays(self):
        book = Book(1, 4, [(0, 0, 5), (1, 0, 9)], [], [(0, "least", 6), (0, "most", 8)],
                    pairs((2, 3), known=[2, 1], never=[3, 0]))
        self.assertEqual(len(struck_for(book)[0]), 3)
        for some in (book, Book(0, 2)):
            check_unchanged(self, some, chain, struck_for, lambda some: is_struck(some, struck_for(book)),
                            lambda some: is_chain(some, chain(book)))
        check_passed_stays(self, is_chain, book, chain(book))
        check_passed_stays(self, is_struck, book, struck_for(book))


class ErrorsTest(StruckTest):
    calls = (chain, struck_for)
    tells = (is_chain, is_struck)

    def test_no_help(self):
        for book in bare_books():
            for call in self.calls:
                check_no_help(self, book, call)

    def test_no_help_only_with_a_reason_that_names_nobody(self):
        for book in unfit_books():
            found = reason(book)
            self.assertTrue(is_true_reason(book, found))
            if found[0] == "kinds":
                self.assertGreater(self.check_book(book), 0)
        for book in mixed_books("no help", 150, events=(2, 3), witnesses=(1, 3), items=(1, 4), gaps=(-3, 1)):
            if not can_be_helped(plain(book)):
                check_no_help(self, plain(book), chain)
                check_no_help(self, plain(book), struck_for)
            else:
                struck_for(plain(book))

    def test_nothing_is_struck_where_no_strike_helps(self):
        for book in bare_books():
            for thing in (([], []), ([0, 1], []), ([0], []), ([], [[]]), (list(range(book.witnesses)), [])):
                self.assertIs(is_struck(book, thing), False)

    def test_chains_are_chains_where_no_strike_helps(self):
        steps = [((0, L), ("clause", 2), (0, E)), ((0, E), ("clause", 3), (0, L))]
        for book in bare_books():
            book = Book(3, 2, book.tellings, book.gaps, book.sure, [(0, E, 1, L)] * 2 + [(0, E, 0, E), (0, L, 0, L)])
            self.assertIs(is_chain(book, steps), True)
            self.assertIs(is_struck(book, ([0], [steps])), False)

    def test_not_plain(self):
        clauses = [(0, E, 1, L), (1, E, 1, E), (0, E, 1, E), (0, L, 1, L)]
        for call in self.calls:
            check_raised(self, NotPlain, {"index": 2}, call, Book(1, 2, [], [], [], clauses))
            check_raised(self, NotPlain, {"index": 0}, call, Book(1, 2, [], [], [], clauses[::-1]))
        for call in self.tells:
            for thing in (None, [], ([], []), 0, SameAsAll(), Book(0, 0)):
                check_raised(self, NotPlain, {"index": 2}, call, Book(1, 2, [], [], [], clauses), thing)
                check_raised(self, NotPlain, {"index": 0}, call, Book(1, 2, [], [], [], clauses[::-1]), thing)

    def test_not_plain_ahead_of_no_help(self):
        for book in unfit_books():
            more = book.with_clause(0, E, 1, E).with_clause(0, L, 1, L)
            for call in self.calls:
                check_raised(self, NotPlain, {"index": len(book.clauses)}, call, more)
            for call in self.tells:
                check_raised(self, NotPlain, {"index": len(book.clauses)}, call, more, ([], []))

    def test_no_fit_is_raised_by_none(self):
        for book in unfit_books():
            for call in self.calls:
                try:
                    call(book)
                except NoFit:
                    self.fail(call)
                except ValueError:
                    pass


class ExamplesTest(unittest.TestCase):
    def test_examples_of_the_document(self):
        bad = Book(1, 3, [(0, 0, 5), (1, 0, 3), (2, 0, 9)], [], [(0, "least", 6), (0, "most", 8)])
        self.assertEqual(struck_for(bad), ([], []))
        worse = bad.with_known(0, "late")
        self.assertEqual([struck_for(worse)[0], len(struck_for(worse)[1]), [step[0] for step in chain(worse)]],
                         [[0], 1, [(0, L), (0, E)]])


if __name__ == "__main__":
    unittest.main()
