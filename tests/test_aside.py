"""[71] aside, with [2], [3] and [4]."""

import unittest
from itertools import combinations

from earlyorlate.aside import aside_for, clashes, is_aside, is_clash, is_repair, repairs, witnesses_of
from earlyorlate.books import Book
from earlyorlate.errors import NoFit
from earlyorlate.fits import explained
from earlyorlate.reasons import is_reason, reason
from earlyorlate.struck import struck_for
from tests.chains import pairs
from tests.checks import bare_books, check_no_help, check_passed_stays, check_quick, check_unchanged, unfit_books
from tests.helper import NEITHER, SameAsAll
from tests.oracle import altered, is_true_reason, judge_of_reasons, mixed_books, planted_books, sets_of
from tests.sets import all_clashes, all_repairs, aside_books, fewest_to_meet, fits_when_struck, named, quick_fits

E, L = "early", "late"


class AsideTest(unittest.TestCase):
    def check_aside(self, book, least):
        """Check aside_for of a book whose repairs are these."""
        if not least:
            check_no_help(self, book, aside_for)
            self.assertIs(is_aside(book, ([], [])), False)
            return
        found = aside_for(book)
        self.assertEqual([found.__class__, len(found)], [tuple, 2])
        witnesses, reasons = found
        self.assertEqual([witnesses.__class__, reasons.__class__], [list, list])
        self.assertEqual(len(witnesses), len(least[0]))
        self.assertIn(tuple(witnesses), least)
        for some in reasons:
            self.assertTrue(is_true_reason(book, some), some)
            self.assertIs(is_reason(book, some), True)
        self.assertEqual(fewest_to_meet(book, [named(some) for some in reasons]), len(witnesses))
        self.assertIs(is_aside(book, found), True)

    def check_sets(self, book, bad, least):
        """Check clashes and repairs, and is_clash and is_repair of all sets."""
        self.assertEqual(clashes(book), bad)
        self.assertEqual(repairs(book), least)
        for some in sets_of(book):
            self.assertIs(is_clash(book, some), some in bad, some)
            self.assertIs(is_repair(book, some), some in least, some)

    def check_book(self, book, fits=fits_when_struck):
        """Check all by going through all sets of witnesses; return how many clashes and repairs there are."""
        bad, least = all_clashes(book, fits), all_repairs(book, fits)
        self.check_sets(book, bad, least)
        self.check_aside(book, least)
        return len(bad), len(least)


class ClausesTest(AsideTest):
    def check_clauses(self, clauses, bad, least, witnesses=3):
        book = Book(0, witnesses, [], [], [], clauses)
        self.check_sets(book, bad, least)
        self.check_aside(book, least)
        self.check_book(book.turned())

    def test_an_explanation(self):
        self.check_clauses([], [], [()])
        self.check_clauses([(0, E, 1, E), (0, L, 1, E), (1, E, 2, L)], [], [()])

    def test_one_witness(self):
        self.check_clauses([(1, E, 1, E), (1, L, 1, L)], [(1,)], [(1,)])
        self.check_clauses([(1, E, 1, E), (1, L, 1, L), (2, E, 2, E), (2, L, 2, L)], [(1,), (2,)], [(1, 2)])

    def test_clauses_that_are_not_plain(self):
        four = [(0, E, 1, E), (0, L, 1, E), (0, E, 1, L), (0, L, 1, L)]
        self.check_clauses(four, [(0, 1)], [(0,), (1,)])
        self.check_clauses([(0, E, 1, E), (0, L, 2, E), (1, L, 1, L), (2, L, 2, L)], [(0, 1, 2)], [(0,), (1,), (2,)])
        self.check_clauses(four + [(2, E, 2, E), (1, L, 2, L), (0, E, 1, E), (2, L, 0, E), (0, L, 0, L)],
                           [(0, 1), (0, 2)], [(0,), (1, 2)])

    def test_rings_of_clashes(self):
        # Each two who stand beside one another clash.
        for many in (3, 4, 5, 6):
            clauses = [(w, E, w, E) for w in range(many)] + [(w, L, (w + 1) % many, L) for w in range(many)]
            found = self.check_book(Book(0, many, [], [], [], clauses))
            self.assertEqual(found[0], many)
            self.assertEqual(len(repairs(Book(0, many, [], [], [], clauses))[0]), (many + 1) // 2)

    def test_all_pairs_of_eight(self):
        clauses = [(w, E, w, E) for w in range(6)] + [(w, L, v, L) for w, v in combinations(range(6), 2)][:14]
        self.check_book(Book(0, 6, [], [], [], clauses))
        told = [(w, w, 5) for w in range(8)] + [(w, (w + 1) % 8, 7) for w in range(8)]
        book = Book(8, 8, told, [(e, (e + 1) % 8, -1) for e in range(8)],
                    [(e, "least", 6) for e in range(8)] + [(e, "most", 6) for e in range(8)])
        self.assertEqual(clashes(book), [(w,) for w in range(8)])
        self.assertEqual(repairs(book), [tuple(range(8))])

    def test_fewer_ahead_and_then_as_python_orders(self):
        clauses = pairs((2, 1), (0, 3), (4, 3), known=[2, 0, 4], never=[1, 3])
        book = Book(0, 5, [], [], [], clauses)
        self.assertEqual(clashes(book), [(0, 3), (1, 2), (3, 4)])
        self.assertEqual(repairs(book), [(1, 3), (2, 3), (0, 1, 4), (0, 2, 4)])
        book = book.renamed([], [4, 3, 2, 1, 0])
        self.assertEqual(clashes(book), [(0, 1), (1, 4), (2, 3)])
        self.assertEqual(repairs(book), [(1, 2), (1, 3), (0, 2, 4), (0, 3, 4)])
        self.check_book(book)

    def test_clashes_of_unlike_sizes(self):
        clauses = pairs((0, 1), (1, 2), (2, 3), known=[0, 3], never=[3])
        self.check_clauses(clauses, [(3,)], [(3,)], 4)
        clauses = pairs((0, 1), (1, 2), (2, 3), (4, 3), known=[0, 4, 5], never=[3, 5])
        self.check_clauses(clauses, [(5,), (3, 4), (0, 1, 2, 3)], [(3, 5), (0, 4, 5), (1, 4, 5), (2, 4, 5)], 6)


class BooksTest(AsideTest):
    def test_edges(self):
        for book in (Book(0, 0), Book(8, 0), Book(0, 8), Book(8, 8)):
            self.assertEqual([clashes(book), repairs(book), aside_for(book)], [[], [()], ([], [])])
            self.assertEqual([is_clash(book, ()), is_repair(book, ()), is_aside(book, ([], []))], [False, True, True])
        self.check_book(Book(2, 0, [], [(0, 1, 3)], [(1, "least", 4), (0, "most", 1)]))
        self.check_book(Book(2, 0, [], [(0, 1, 3)], [(1, "most", 4), (0, "least", 2)]))

    def test_a_reason_that_names_nobody(self):
        for book in bare_books():
            self.assertEqual(self.check_book(book), (1, 0))
            self.assertEqual([clashes(book), repairs(book)], [[()], []])
            self.assertEqual([is_clash(book, ()), is_repair(book, ())], [True, False])

    def test_tellings(self):
        sure = [(0, "least", 6), (0, "most", 8)]
        self.assertEqual(self.check_book(Book(1, 2, [(0, 0, 5), (0, 0, 9), (1, 0, 7)], [], sure)), (1, 1))
        self.assertEqual(self.check_book(Book(1, 2, [(0, 0, 5), (0, 0, 8), (1, 0, 7)], [], sure)), (0, 1))
        crossed = Book(2, 2, [(0, 0, 5), (1, 1, 19), (0, 1, 20), (1, 0, 9)], [], sure)
        self.assertEqual([clashes(crossed), repairs(crossed)], [[(0, 1)], [(0,), (1,)]])
        self.check_book(crossed)

    def test_great_numbers(self):
        gaps = [(a, a + 1, 10 ** 12) for a in range(7)]
        for more in (0, 1):
            book = Book(8, 2, [(0, 0, 1 - 10 ** 12), (1, 7, 10 ** 12 - 1 + more)],
                        gaps[:1] + [(1, 2, 10 ** 12 - 1)] + [(a, a + 1, 0) for a in range(2, 7)], [],
                        [(0, E, 0, E), (1, L, 1, L)])
            self.assertEqual(self.check_book(book), ((1, 2), (0, 1))[more])
        book = Book(8, 2, [(0, 0, 10 ** 12), (1, 7, 10 ** 12)], [(a, a + 1, 10 ** 12) for a in range(7)], [],
                    [(0, E, 0, E), (1, L, 1, L)])
        self.assertEqual(self.check_book(book), (1, 2))

    def test_books_as_they_come(self):
        bad = least = bare = 0
        for book in aside_books("aside", 250, events=(0, 3), witnesses=(0, 4), items=(0, 4), numbers=(-3, 3),
                                gaps=(-9, 0), clauses=(0, 8)):
            found = self.check_book(book)
            bad += found[0] > 1
            least += found[1] > 1
            bare += found == (1, 0)
        self.assertTrue(bad > 10 and least > 20 and bare > 3, (bad, least, bare))

    def test_greater_books(self):
        found = set()
        for book in aside_books("greater", 30, knowns=5, events=(3, 8), witnesses=(5, 7), items=(3, 7),
                                numbers=(-30, 30), gaps=(-90, -20), clauses=(5, 15)):
            found.add(self.check_book(book, quick_fits))
        self.assertGreater(len(found), 8, found)

    def test_great_books_in_good_time(self):
        crowd = [(w, E, w, E) for w in range(6)] + [(w, L, v, L) for w, v in combinations(range(6), 2)][:14]
        told = [(at % 8, at % 8, at) for at in range(20)]
        gaps = [(at % 8, (at + 1 + at // 8) % 8, -at) for at in range(20)]
        sure = [(at % 8, ("least", "most")[at // 8 % 2], (-99, 99)[at // 8 % 2]) for at in range(20)]
        for book in [Book(8, 8, told, gaps, sure, crowd), Book(8, 8, told, gaps, sure, [(0, E, 0, L)] * 20)] + (
                planted_books("quick", 2) + mixed_books("quick", 4, events=(8, 8), witnesses=(8, 8), items=(20, 20),
                                                        numbers=(-9, 9), gaps=(-99, -40))):
            bad = check_quick(self, 2, clashes, book)
            least = check_quick(self, 2, repairs, book)
            self.assertEqual(bad, all_clashes(book, quick_fits))
            self.assertEqual(least, all_repairs(book, quick_fits))
            self.assertTrue(all(check_quick(self, 2, is_clash, book, some) for some in bad))
            self.assertTrue(all(check_quick(self, 2, is_repair, book, some) for some in least))
            if least:
                found = check_quick(self, 2, aside_for, book)
                self.assertIs(check_quick(self, 2, is_aside, book, found), True)
                self.check_aside(book, least)

    def test_no_help(self):
        for book in unfit_books():
            if reason(book)[0] == "kinds":
                self.assertEqual(len(aside_for(book)[0]), len(all_repairs(book)[0]))
            else:
                check_no_help(self, book, aside_for)

    def test_as_many_as_chains_of_plain_books(self):
        book = Book(0, 6, [], [], [], pairs((0, 1), (2, 3), (1, 3), known=[0, 2, 5], never=[1, 3, 5]))
        self.assertEqual(len(aside_for(book)[0]), len(struck_for(book)[0]))

    def test_the_book_stays(self):
        book = Book(1, 3, [(0, 0, 5), (0, 0, 9)], [], [(0, "least", 6), (0, "most", 8)],
                    [(1, E, 2, E), (1, L, 2, E), (1, E, 2, L), (1, L, 2, L)])
        self.assertEqual([clashes(book), repairs(book)], [[(0,), (1, 2)], [(0, 1), (0, 2)]])
        check_unchanged(self, book, clashes, repairs, aside_for, lambda some: is_aside(some, aside_for(some)),
                        lambda some: witnesses_of(some, reason(some)), lambda some: is_clash(some, (1, 2)),
                        lambda some: is_repair(some, (0, 1)))
        check_unchanged(self, Book(1, 1), clashes, repairs, aside_for)
        check_passed_stays(self, is_aside, book, aside_for(book))
        check_passed_stays(self, witnesses_of, book, reason(book))


class WitnessesOfTest(unittest.TestCase):
    def test_gaps_and_bounds_name_nobody(self):
        book = Book(3, 2, [(0, 0, 5)], [(0, 1, 2), (1, 0, -1), (1, 2, 1)], [(0, "least", 5), (1, "most", 6)])
        self.assertEqual(witnesses_of(book, ("gaps", (0, 1))), [])
        self.assertEqual(witnesses_of(book, ("bounds", (("sure", 0), (0,), ("sure", 1)))), [])
        for some in bare_books():
            self.assertEqual(witnesses_of(some, reason(some)), [])

    def test_kinds(self):
        book = Book(1, 3, [(2, 0, 5), (0, 0, 4)], [], [], pairs((0, 1), known=[2, 0], never=[0, 1]))
        self.assertEqual(witnesses_of(book, ("kinds", (((0, L), ("clause", 2), (0, E)), ((0, E), ("clause", 3), (0, L))))),
                         [0])
        there = (((2, E), ("link", (("told", 0), (), ("told", 1))), (0, E)), ((0, E), ("clause", 0), (1, E)),
                 ((1, E), ("clause", 4), (1, L)))
        back = (((1, L), ("clause", 0), (0, L)), ((0, L), ("link", (("told", 0), (), ("told", 1))), (2, L)),
                ((2, L), ("clause", 1), (2, E)))
        self.assertTrue(is_reason(book, ("kinds", there + back)))
        self.assertEqual(witnesses_of(book, ("kinds", there + back)), [0, 1, 2])

    def test_reasons_as_they_come(self):
        seen = set()
        for book in aside_books("witnesses of", 150, events=(0, 3), witnesses=(1, 4), items=(1, 5)):
            found = reason(book)
            if found is not None:
                self.assertEqual(witnesses_of(book, found), sorted(named(found)))
                seen.add((found[0], len(named(found))))
        self.assertLessEqual({("gaps", 0), ("bounds", 0), ("kinds", 1), ("kinds", 2)}, seen)


class IsAsideTest(unittest.TestCase):
    two = Book(0, 3, [], [], [], [(1, E, 2, E), (1, L, 2, E), (1, E, 2, L), (1, L, 2, L)] + pairs(known=[0], never=[0]))

    def check_things(self, book, things, right):
        for thing in things:
            self.assertIs(is_aside(book, thing), right, thing)

    def judge(self, book):
        """A function that tells of any value whether it is such a tuple, by the definition."""
        is_right_reason = judge_of_reasons(book, 4)
        least = all_repairs(book)

        def are_right(witnesses, reasons):
            return (repr(witnesses) in [repr(list(some)) for some in least if len(some) == len(least[0])]
                    and all(is_right_reason(some) for some in reasons)
                    and fewest_to_meet(book, [named(some) for some in reasons]) == len(witnesses))

        return lambda thing: (thing.__class__ is tuple and len(thing) == 2
                              and [part.__class__ for part in thing] == [list, list] and are_right(*thing))

    def test_what_was_told_with_a_part_altered(self):
        many = 0
        books = aside_books("is aside", 45, events=(0, 2), witnesses=(1, 3), items=(1, 4), gaps=(-5, -1), clauses=(2, 6))
        for book in [self.two] + books:
            if all_repairs(book):
                right = self.judge(book)
                self.assertTrue(right(aside_for(book)))
                for thing in altered(aside_for(book)):
                    self.check_things(book, [thing], right(thing))
                    many += 1
        self.assertGreater(many, 3000)

    def test_more_reasons_than_are_needed(self):
        witnesses, reasons = aside_for(self.two)
        self.assertEqual([witnesses[0], len(reasons)], [0, 2])
        self.check_things(self.two, [([0, 1], reasons), ([0, 2], reasons), ([0, 1], reasons[::-1]),
                                     ([0, 2], reasons * 3)], True)
        self.check_things(self.two, [([0, 1], reasons[:1]), ([0, 1], reasons[1:]), ([0], reasons), ([1, 2], reasons),
                                     ([0, 1, 2], reasons), ([1, 0], reasons), ([0, 0], reasons), ([0, 3], reasons),
                                     ([-1, 0], reasons), ([], []), ([0, 1], []), ([0, 1], [None] + reasons)], False)

    def test_reasons_that_fewer_meet(self):
        # Both reasons name witness 1, so one witness meets them, but the other two need one more.
        book = Book(0, 3, [], [], [], pairs((0, 1), (1, 2), known=[0, 1], never=[1, 2]))
        found = aside_for(book)
        self.assertEqual(found[0], [1])
        whole = ("kinds", (((0, L), ("clause", 2), (0, E)), ((0, E), ("clause", 0), (1, E)), ((1, E), ("clause", 4), (1, L)),
                           ((1, L), ("clause", 0), (0, L))))
        self.assertTrue(is_reason(book, whole))
        self.check_things(book, [([1], [whole]), ([1], [whole] + found[1])], True)
        self.check_things(book, [([0], [whole]), ([0, 1], [whole]), ([0, 2], [whole] * 2), ([], [whole])], False)

    def test_truths(self):
        book = Book(0, 2, [], [], [], pairs(known=[0, 1], never=[0, 1]))
        reasons = aside_for(book)[1]
        self.check_things(book, [([0, 1], reasons)], True)
        self.check_things(book, [([False, 1], reasons), ([0, True], reasons), ([False, True], reasons)], False)

    def test_other_values(self):
        found = aside_for(self.two)
        self.check_things(self.two, NEITHER + [
            SameAsAll(), self.two, 0, (), [], ((), ()), ([], ()), ((), []), [[], []], found[0], found[1], list(found),
            found[::-1], (found,), found + ([],), found[:1], (tuple(found[0]), found[1]), (found[0], tuple(found[1])),
            (found[0], found[1][0]), (found[0], [0, 1]), (found[0], [None, None]), (found[0], None), (None, found[1]),
            ([SameAsAll(), 1], found[1]), (found[0], [SameAsAll()] * 2), (found[0], SameAsAll()), ([[0], [1]], found[1]),
            ([0.0, 1], found[1]), (["0", "1"], found[1]), reason(self.two), explained(Book(1, 1)), NoFit(0),
            (found[0], [reason(book) for book in bare_books()])], False)

    def test_books_without_a_repair(self):
        for book in bare_books():
            self.check_things(book, [([], []), ([], [reason(book)]), ([0], [reason(book)]), ([0, 1], [])], False)

    def test_books_with_an_explanation(self):
        self.check_things(Book(1, 2), [([], [])], True)
        self.check_things(Book(1, 2), [([0], []), ([], [()]), ([0], [reason(self.two)]), ([], [reason(self.two)])], False)


class SetsTest(unittest.TestCase):
    book = Book(0, 4, [], [], [], pairs((0, 1), known=[0, 3], never=[1, 3]))

    def check_things(self, call, things, right, book=None):
        for thing in things:
            self.assertIs(call(book or self.book, thing), right, thing)

    def test_what_is_told(self):
        self.assertEqual([clashes(self.book), repairs(self.book)], [[(3,), (0, 1)], [(0, 3), (1, 3)]])
        for call, sets in ((is_clash, clashes(self.book)), (is_repair, repairs(self.book))):
            self.check_things(call, sets, True)
            for some in sets:
                for thing in altered(some):
                    self.check_things(call, [thing], repr(thing) in [repr(other) for other in sets])

    def test_more_and_fewer(self):
        self.check_things(is_clash, [(), (0,), (1,), (2,), (0, 3), (2, 3), (0, 1, 2), (0, 1, 3), (0, 1, 2, 3)], False)
        self.check_things(is_repair, [(), (0,), (3,), (0, 1), (0, 1, 3), (0, 2, 3), (0, 1, 2, 3)], False)

    def test_order_and_form(self):
        for call, some in ((is_clash, (0, 1)), (is_repair, (0, 3))):
            self.check_things(call, [some], True)
            self.check_things(call, [some[::-1], list(some), some + some[-1:], some[:1] + some, some + (4,), (-1,) + some,
                                     some + (None,), (some,), some + ((),), {some: 0}, {0: 0, 3: 3}, str(some),
                                     ("0", "3"), (0.0, 1), [some], set(some), frozenset(some)], False)

    def test_truths(self):
        self.check_things(is_clash, [(False, 1), (0, True), (False, True)], False)
        book = Book(0, 2, [], [], [], pairs(known=[0, 1], never=[0, 1]))
        self.check_things(is_repair, [(0, 1)], True, book)
        self.check_things(is_repair, [(False, 1), (0, True), (False, True)], False, book)

    def test_other_values(self):
        for call in (is_clash, is_repair):
            for book in (self.book, Book(0, 0), bare_books()[0]):
                self.check_things(call, NEITHER + [
                    SameAsAll(), (SameAsAll(),), book, 0, 1, [], "", ((),), ([],), (None,), (0, None), clashes(self.book),
                    aside_for(self.book), reason(self.book), NoFit(0), (10 ** 30,), (-1,), (8,)], False, book)


class ExamplesTest(unittest.TestCase):
    def test_examples_of_the_document(self):
        book = Book(2, 3, [(0, 0, 5), (1, 0, 3), (1, 1, 9), (2, 1, 4)], [(0, 1, 2)], [(0, "least", 4)])
        bad = Book(1, 3, [(0, 0, 5), (1, 0, 3), (2, 0, 9)], [], [(0, "least", 6), (0, "most", 8)])
        worse = bad.with_known(0, "late")
        self.assertEqual([clashes(worse), repairs(worse), aside_for(worse)[0], is_aside(worse, aside_for(worse)),
                          repairs(book)],
                         [[(0,)], [(0,)], [0], True, [()]])


if __name__ == "__main__":
    unittest.main()
