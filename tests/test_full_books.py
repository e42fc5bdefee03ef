"""[4] Where a part of a book is full, or numbers are greater than most: TooMany is raised only where a point says so."""

import unittest
from itertools import product

from earlyorlate.aside import aside_for, clashes, is_aside, repairs
from earlyorlate.asks import ask_table, depth, is_ask_table, is_plan, plan, questions
from earlyorlate.books import Book
from earlyorlate.clocks import shift_stretch, shifted
from earlyorlate.compared import alike, are_whys, contraries, implies, parting, whys
from earlyorlate.counted import Fits, count_fits, early_counts
from earlyorlate.fits import has_fit
from earlyorlate.lattice import fewest_early, most_early
from earlyorlate.needless import is_least_book, least_book, needless
from earlyorlate.news import early_to, late_from, news_of, settles, word_of
from earlyorlate.notation import show_book
from earlyorlate.orders import sure_gap, sure_order, sure_window, why_bound, why_gap
from earlyorlate.shifts import holes, is_clock_paper, pieces, shift_stretches
from earlyorlate.spans import at_gap, at_time, gaps_of, times_of, why_never, why_no_gap
from earlyorlate.strong import enough_bound, enough_gap, strong_bound, strong_gap
from earlyorlate.struck import chain, is_struck, struck_for
from earlyorlate.sure import groups, kinds_of, sure_kind, sure_kinds, why_kind
from tests.helper import FAR, KINDS, SIDES
from tests.oracle import all_kinds, holds
from tests.saying import PARTS, items_of, made

E, L = "early", "late"


def full(book):
    """The Book with the last item of each part so often that all are full."""
    def filled(items):
        return items + items[-1:] * (24 - len(items))
    return Book(book.events, book.witnesses, filled(book.tellings), filled(book.gaps), filled(book.sure),
                filled(book.clauses))


class FullTest(unittest.TestCase):
    book = Book(2, 3, [(0, 0, 5), (0, 0, 8), (1, 1, 3)], [(0, 1, 2)], [(0, "least", 4), (1, "most", 30)],
                [(0, E, 2, L)])

    def both(self, call, *arguments):
        """What a call returns for the book, and for the full one."""
        more = full(self.book)
        self.assertEqual([len(part) for part in (more.tellings, more.gaps, more.sure, more.clauses)], [24] * 4)
        return call(self.book, *arguments), call(more, *arguments)

    def check_same(self, call, *arguments):
        found, other = self.both(call, *arguments)
        self.assertEqual(found, other)

    def check_both_or_none(self, call, *arguments):
        """Check that both are a reason, or an explanation, or both are None."""
        found, other = self.both(call, *arguments)
        self.assertEqual(found is None, other is None)
        return other

    def test_what_is_sure(self):
        for call in (sure_kinds, groups, sure_order, count_fits, early_counts, fewest_early, most_early):
            self.check_same(call)
        self.check_same(lambda book: list(Fits(book)))
        for w in range(3):
            self.check_same(kinds_of, w)
            self.check_same(sure_kind, w)
            for kind in KINDS:
                self.check_both_or_none(why_kind, w, kind)
        for a, b in product(range(2), repeat=2):
            self.check_same(sure_gap, a, b)
            self.check_same(gaps_of, a, b)

    def test_times_and_gaps(self):
        for e, x in product(range(2), (3, 5, 6, 8, 30, 31)):
            self.check_same(sure_window, e)
            self.check_same(times_of, e)
            found = self.check_both_or_none(at_time, e, x)
            self.assertTrue(found is None or holds(self.book, *found) and found[1][e] == x)
            self.check_both_or_none(why_never, e, x, x)
            for side in SIDES:
                self.check_both_or_none(why_bound, e, side, x)
        for (a, b), d in product(((0, 1), (1, 0)), (-30, -26, -2, 2, 26, 27)):
            found = self.check_both_or_none(at_gap, a, b, d)
            self.assertTrue(found is None or holds(self.book, *found) and found[1][b] - found[1][a] == d)
            self.check_both_or_none(why_gap, a, b, d)
            self.check_both_or_none(why_no_gap, a, b, d, d)

    def test_news(self):
        for w, e in product(range(3), range(2)):
            for call in (late_from, early_to, news_of):
                self.check_same(call, w, e)
            for x in (-9, 4, 6, 7, 30, 99):
                self.check_same(word_of, w, e, x)
                self.check_same(settles, w, e, x)

    def test_striking(self):
        for book in (self.book, self.book.with_known(0, L).with_known(0, E),
                     self.book.with_known(1, L).with_telling(0, 0, 30).with_telling(0, 0, 3).with_sure(0, "least", 4)):
            more = full(book)
            self.assertEqual([clashes(more), repairs(more)], [clashes(book), repairs(book)])
            self.assertEqual(len(aside_for(more)[0]), len(repairs(book)[0]))
            self.assertEqual(len(struck_for(more)[0]), len(repairs(book)[0]))
            self.assertEqual([is_aside(more, aside_for(more)), is_struck(more, struck_for(more))], [True, True])
            self.assertEqual(chain(more) is None, chain(book) is None)

    def check_strong(self, strong, enough, *arguments):
        (found, other), (few, fewer) = self.both(strong, *arguments), self.both(enough, *arguments)
        self.assertEqual([found and found[0], few and len(few)], [other and other[0], fewer and len(fewer)])

    def test_strength(self):
        for a, b in ((0, 1), (1, 0)):
            for g in (-30, -26, 2, 3, FAR, -FAR):
                self.check_strong(strong_gap, enough_gap, a, b, g)
        for e, side, x in product(range(2), SIDES, (3, 4, 5, 6, 28, 30, 31, FAR + 1, -FAR - 1)):
            self.check_strong(strong_bound, enough_bound, e, side, x)

    def test_shifts(self):
        for others in ([], [0], (1, 2), [0, 1, 2]):
            self.check_same(shift_stretches, others)
            for kinds in all_kinds(self.book):
                self.check_same(shift_stretch, others, kinds)
            more = full(self.book)
            self.assertIs(is_clock_paper(more, others, pieces(more, others), holes(more, others)), True)
            self.assertEqual(len(shifted(more, others, FAR - 8).tellings), 24)

    def test_saying(self):
        fewer = Book(2, 3, [(0, 0, 5)], [(0, 1, 1)], [(0, "least", 3)], [(0, E, 2, L)])
        for one, other in product((self.book, full(self.book), fewer, full(fewer)), repeat=2):
            right = one.gaps[-1] == (0, 1, 2) or other.gaps[-1] == (0, 1, 1)
            self.assertEqual([implies(one, other), parting(one, other) is None, whys(one, other) is not None], [right] * 3)
            self.assertIs(alike(one, other), one.gaps[-1] == other.gaps[-1])
            if right:
                self.assertIs(are_whys(one, other, whys(one, other)), True)

    def test_contraries(self):
        more = full(self.book)
        for sort, item in items_of(self.book):
            found = contraries(more, sort, item)
            self.assertTrue(all(isinstance(some, Book) for some in found))
            self.assertFalse(any(has_fit(some) for some in found))
            self.assertEqual([len(items_of(some)) for some in found],
                             [len(items_of(some)) + 96 - len(items_of(self.book)) for some in contraries(self.book, sort, item)])
            far = made(self.book, [(sort, item[:2] + (FAR,) if sort != "clauses" else item)])
            for some_sort, some_item in items_of(far):
                self.assertEqual(len(contraries(self.book, some_sort, some_item)), len(found))
        self.assertEqual(contraries(self.book, "sure", (0, "most", FAR))[0].sure[-1], (0, "least", FAR + 1))

    def test_needless_and_asks(self):
        more = full(self.book)
        self.assertEqual(needless(self.book), [])
        # The last item of each part stands there more than once.
        self.assertEqual(needless(more), [(sort, at) for sort in PARTS
                                          for at in range(len(getattr(self.book, sort)) - 1, 24)])
        self.assertEqual(least_book(more), self.book)
        self.assertEqual([is_least_book(more, self.book), is_least_book(more, more)], [True, False])
        for call in (questions, ask_table, plan):
            self.check_same(call)
        self.assertEqual(show_book(more).split("\n")[:3], show_book(self.book).split("\n")[:3])

    def test_eight_witnesses_who_are_asked(self):
        book = full(Book(2, 8, [(w, 0, 5 * w) for w in range(8)], [(0, 1, 2)], [(0, "least", 4)], [(0, E, 2, L)]))
        self.assertEqual(depth(plan(book)), questions(book))
        self.assertIs(is_plan(book, plan(book)), True)
        self.assertIs(is_ask_table(book, ask_table(book)), True)

    def test_integers_that_are_no_numbers(self):
        for x in (FAR, FAR + 1, 10 ** 30):
            for sign in (-1, 1):
                self.check_same(word_of, 0, 1, sign * x)
                self.check_same(settles, 0, 1, sign * x)
                self.assertIsNone(at_time(self.book, 1, sign * x))
                self.assertIsNone(at_gap(self.book, 0, 1, sign * x))
                self.assertIsNotNone(why_never(self.book, 1, sign * x, sign * x))
                self.assertIsNotNone(why_no_gap(self.book, 0, 1, sign * x, sign * x))
            self.assertIsNotNone(why_gap(self.book, 0, 1, -x))
            self.assertIsNone(why_gap(self.book, 0, 1, x))
            self.assertIsNotNone(why_bound(self.book, 0, "least", -x))
            self.assertIsNone(why_bound(self.book, 0, "least", x))
            self.assertIsNotNone(why_bound(self.book, 1, "most", x))
            self.assertIsNone(why_bound(self.book, 1, "most", -x))


if __name__ == "__main__":
    unittest.main()
