"""[81] are_pieces, are_holes and is_clock_paper, with [2] and [4]."""

import unittest

from earlyorlate.books import Book
from earlyorlate.errors import NoFit
from earlyorlate.fits import explained
from earlyorlate.shifts import are_holes, are_pieces, holes, is_clock_paper, pieces, shift_stretches
from tests.checks import bare_books
from tests.helper import NEITHER, SameAsAll
from tests.oracle import altered
from tests.shifting import are_right_pieces, judge_of_holes, some_of
from tests.test_shifts import DAYS, shift_books

E, L = "early", "late"
HUGE = 10 ** 40

NO_LISTS = NEITHER + [SameAsAll(), 0, 1, -1, (), "none", [None], [()], [[]], [0], [SameAsAll()], [(0, 1)], [(0, 1, 2, 3)],
                      [(None, None, None)], [(0, 0, SameAsAll())], NoFit(0), explained(Book(1, 1))]


class JudgedTest(unittest.TestCase):
    def check_things(self, call, arguments, things, right):
        for thing in things:
            self.assertIs(call(*arguments, thing), right, thing)


class PiecesTest(JudgedTest):
    near = Book(2, 1, [(0, 0, 0), (0, 1, 9)], [], DAYS)
    one = Book(1, 1, [(0, 0, 5)], [], [(0, "least", 3), (0, "most", 3)])

    def check(self, things, right, book=None):
        self.check_things(are_pieces, (book or self.near, [0]), things, right)

    def test_others_than_those_told(self):
        self.check([[], [(0, 0, (E,))], [(0, None, (E,))], [(5, 9, (E,)), (10, 10, (E,)), (12, None, (E,))],
                    [(None, -1, (L,)), (0, None, (E,))], [(None, -1, (L,))], [(None, -5, (L,)), (-3, -3, (L,)), (1, 1, (E,))],
                    [(HUGE, HUGE + 5, (E,)), (2 * HUGE, None, (E,))], [(-HUGE, -1, (L,))], [(None, -HUGE, (L,))]], True)

    def test_ends_moved_by_one(self):
        self.check([[(-1, None, (E,))], [(None, 0, (L,))], [(-1, -1, (E,))], [(0, 0, (L,))], [(-HUGE, -1, (E,))],
                    [(None, None, (E,))], [(None, None, (L,))], [(-1, 0, (L,))], [(-1, 0, (E,))], [(HUGE, None, (L,))]], False)

    def test_order_and_overlaps(self):
        self.check([[(0, 3, (E,)), (4, None, (E,))], [(0, 3, (E,)), (5, None, (E,))]], True)
        self.check([[(4, None, (E,)), (0, 3, (E,))], [(0, 3, (E,)), (3, None, (E,))], [(0, 4, (E,)), (3, None, (E,))],
                    [(0, 3, (E,)), (0, 3, (E,))], [(0, None, (E,)), (5, None, (E,))], [(0, None, (E,)), (None, -1, (L,))],
                    [(None, -5, (L,)), (None, -1, (L,))], [(3, 2, (E,))], [(1, -1, (E,))], [(-1, -2, (L,))]], False)

    def test_truths_and_other_ends(self):
        self.check([[(0, 1, (E,))]], True)
        self.check([[(False, 1, (E,))], [(0, True, (E,))], [(False, True, (E,))], [(False, None, (E,))], [("0", 1, (E,))],
                    [(0, "1", (E,))], [((), 1, (E,))], [(0, [], (E,))], [(0, (None,), (E,))], [(0, SameAsAll(), (E,))],
                    [(SameAsAll(), 1, (E,))], [(b"0", 1, (E,))]], False)

    def test_kinds(self):
        self.check([[(0, 1, kinds)] for kinds in ((), [E], E, (E, E), (E, L), ("e",), ("EARLY",), (b"early",), (None,), (0,),
                                                  ((E,),), ([E],), (SameAsAll(),), {0: E}, None, ("early ",), (L,))], False)
        self.check([[(0, 1, (kind, "late"))] for kind in (E, L)], False)

    def test_form(self):
        good = (0, 1, (E,))
        self.check([[good]], True)
        self.check([(good,), good, [list(good)], [good[:2]], [good + (0,)], [(0, (E,), 1)], {0: good}, [[good]], [good, None],
                    [None, good], [good, ()], [(good,)], {good: 0}, {good}], False)
        self.check(NO_LISTS, False)

    def test_what_was_told_with_a_part_altered(self):
        many = 0
        for at, book in enumerate(shift_books("pieces", 50)):
            others = some_of(book, at)
            found = pieces(book, others)
            for thing in [found] + altered(found):
                self.assertIs(are_pieces(book, others, thing), are_right_pieces(book, others, thing), thing)
                many += 1
        self.assertGreater(many, 1500)

    def test_kinds_that_fit_with_no_shift(self):
        for book in bare_books():
            self.check([[(0, 0, (E, E))], [(None, None, (L, L))], [(None, -HUGE, (E, L))]], False, book)
            self.check([[]], True, book)
        self.check([[(2, None, (E,))], [(None, 2, (L,))]], True, self.one)
        self.check([[(2, None, (E,))], [(1, 1, (E,))]], False, self.one.with_known(0, L))

    def test_nobody_and_nothing(self):
        self.check_things(are_pieces, (Book(0, 0), []), [[], [(None, None, ())], [(None, 3, ()), (4, None, ())]], True)
        self.check_things(are_pieces, (Book(0, 0), ()), [[(None, None, (E,))], [(None, None, [])], ()], False)


class HolesTest(JudgedTest):
    far = Book(2, 1, [(0, 0, 0), (0, 1, 20)], [], DAYS)
    circle = ("kinds", (((0, E), ("link", (("told", 1), (), ("sure", 3))), (0, L)),
                        ((0, L), ("link", (("sure", 0), (), ("told", 0))), (0, E))))

    def check(self, things, right, book=None, others=(0,)):
        self.check_things(are_holes, (book or self.far, others), things, right)

    def test_others_than_those_told(self):
        turned = ("kinds", self.circle[1][::-1])
        self.check([[], [(1, 9, self.circle)], [(3, 5, turned)], [(1, 1, self.circle), (2, 8, turned), (9, 9, self.circle)],
                    [(1, 9, ("kinds", self.circle[1] * 2))]], True)

    def test_ends_at_one_of_which_it_is_none(self):
        self.check([[(0, 9, self.circle)], [(1, 10, self.circle)], [(0, 10, self.circle)], [(None, 9, self.circle)],
                    [(1, None, self.circle)], [(None, None, self.circle)], [(0, 0, self.circle)], [(10, 10, self.circle)],
                    [(-HUGE, HUGE, self.circle)], [(1, HUGE, self.circle)], [(-HUGE, 9, self.circle)]], False)

    def test_order_and_overlaps(self):
        self.check([[(5, 9, self.circle), (1, 4, self.circle)], [(1, 5, self.circle), (5, 9, self.circle)],
                    [(1, 9, self.circle), (1, 9, self.circle)], [(9, 1, self.circle)], [(2, 1, self.circle)]], False)

    def test_truths_and_other_ends(self):
        self.check([[(1, 1, self.circle)]], True)
        self.check([[(True, 1, self.circle)], [(1, True, self.circle)], [(True, True, self.circle)], [("1", 1, self.circle)],
                    [(1, (), self.circle)], [(1, SameAsAll(), self.circle)], [([1], 1, self.circle)]], False)

    def test_one_end_alone(self):
        # Late, the one would tell a time after the greatest one, with a shift below 5; early it must not be at all.
        book = Book(1, 1, [(0, 0, 5)], [], [(0, "least", 0)], [(0, L, 0, L)])
        found = holes(book, [0])
        self.assertEqual([row[:2] for row in found], [(6, None)])
        why = found[0][2]
        self.check([[(6, None, why)], [(6, HUGE, why)], [(HUGE, None, why)], [(HUGE, HUGE + 1, why)],
                    [(6, 6, why), (8, None, why)]], True, book)
        self.check([[(5, None, why)], [(None, 6, why)], [(None, None, why)], [(5, 5, why)], [(-HUGE, None, why)],
                    [(None, HUGE, why)]], False, book)
        turned = book.turned()
        why = holes(turned, [0])[0][2]
        self.check([[(None, -6, why)], [(-HUGE, -6, why)], [(None, -HUGE, why)], [(None, -8, why), (-6, -6, why)]], True, turned)
        self.check([[(None, -5, why)], [(-6, None, why)], [(None, None, why)], [(None, HUGE, why)], [(-5, -5, why)]], False,
                   turned)

    def test_what_does_not_depend_on_the_shift(self):
        for book in bare_books():
            why = holes(book, [0])[0][2]
            self.check([[(None, None, why)], [(0, 0, why)], [(-HUGE, None, why)], [(None, -HUGE, why), (0, None, why)]], True,
                       book)
        book = Book(2, 2, [(0, 0, 5), (1, 1, 6)], [(0, 1, 3)], [], [(0, E, 0, E), (1, L, 1, L)])
        for others in ((), (0, 1)):
            why = holes(book, others)[0][2]
            self.check([[(None, None, why)], [(-HUGE, HUGE, why)], [(None, 5, why), (6, 6, why)]], True, book, others)
        self.check([[(None, None, why)], [(None, 0, why)], [(-2, None, why)], [(-2, -2, why)]], False, book, (1,))
        self.check([[(None, -1, why)], [(None, 1, why)], [(1, 1, why)]], True, book, (0,))
        self.check([[(None, 2, why)], [(2, 2, why)]], False, book, (0,))
        self.check([[(-1, None, why)], [(0, None, why)], [(-1, -1, why)]], True, book, (1,))

    def test_form(self):
        good = (1, 9, self.circle)
        self.check([[good]], True)
        self.check([(good,), good, [list(good)], [good[:2]], [good + (0,)], {0: good}, [[good]], [good, None], [None, good],
                    [(1, 9, self.circle[1])], [(1, 9, list(self.circle))], [(1, 9, ("kinds", list(self.circle[1])))],
                    [(1, 9, ())], [(1, 9, None)], [(1, 9, ("kinds", ()))], [(1, 9, ("gaps", ()))], [(1, 9, (self.circle,))],
                    [(1, 9, ("bounds", self.circle[1]))], [(1, 9, ("kinds", self.circle[1][:1]))],
                    [(1, 9, ("bounds", (("sure", 0), (), ("sure", 1))))]], False)
        self.check(NO_LISTS, False)

    def test_what_was_told_with_a_part_altered(self):
        many = 0
        for at, book in enumerate(shift_books("holes", 46)):
            others = some_of(book, at)
            found = holes(book, others)
            judge = judge_of_holes(book, others)
            for thing in [found] + altered(found):
                self.assertIs(are_holes(book, others, thing), judge(thing), (book.tellings, others, thing))
                many += 1
        self.assertGreater(many, 3000)

    def test_any_reason_at_one_shift(self):
        # The reason for one shift is a hole there, and it is one at others exactly if it is their reason, too.
        for at, book in enumerate(shift_books("one shift", 40)):
            others = some_of(book, at)
            judge = judge_of_holes(book, others)
            for low, high, why in holes(book, others):
                for one in range(-12, 13, 4):
                    for thing in ([(one, one, why)], [(None, one, why)], [(one, None, why)], [(one, one + 3, why)]):
                        self.assertIs(are_holes(book, others, thing), judge(thing), thing)


class PaperTest(JudgedTest):
    def check(self, book, others, some_pieces, some_holes, right):
        self.assertIs(is_clock_paper(book, others, some_pieces, some_holes), right, (some_pieces, some_holes))

    def test_what_was_told_and_split(self):
        for at, book in enumerate(shift_books("paper", 60)):
            others = some_of(book, at)
            some = [pieces(book, others), holes(book, others)]
            self.check(book, others, *some, True)
            self.check(book, others, *some[::-1], some == [[], []])
            for at, rows in enumerate(some):
                for thing in self.split(rows):
                    self.check(book, others, *(some[:at] + [thing] + some[at + 1:]), True)
                for thing in self.less(rows):
                    self.check(book, others, *(some[:at] + [thing] + some[at + 1:]), False)

    def split(self, rows):
        """These rows, each split into two somewhere."""
        found = []
        for at, (low, high, what) in enumerate(rows):
            middle = 0 if low is None and high is None else high - 1 if high is not None else low
            if (low is None or low <= middle) and (high is None or middle < high):
                found.append(rows[:at] + [(low, middle, what), (middle + 1, high, what)] + rows[at + 1:])
        return found

    def less(self, rows):
        """These rows with one out, or without a shift in one of them."""
        found = [rows[:at] + rows[at + 1:] for at in range(len(rows))]
        for at, (low, high, what) in enumerate(rows):
            if low is None or low != high:
                if high is not None:
                    found.append(rows[:at] + [(low, high - 1, what)] + rows[at + 1:])
                if low is not None:
                    found.append(rows[:at] + [(low + 1, high, what)] + rows[at + 1:])
                if low is None:
                    end = -HUGE
                    found.append(rows[:at] + [(end, high, what)] + rows[at + 1:])
                if high is None:
                    found.append(rows[:at] + [(low, HUGE, what)] + rows[at + 1:])
                    found.append(rows[:at] + [(low, HUGE, what), (HUGE + 2, None, what)] + rows[at + 1:])
        return found

    def test_other_values(self):
        book = Book(2, 1, [(0, 0, 0), (0, 1, 20)], [], DAYS)
        some_pieces, some_holes = pieces(book, [0]), holes(book, [0])
        self.check(book, [0], some_pieces, some_holes, True)
        for thing in NO_LISTS + [tuple(some_pieces), some_holes, [], some_pieces * 2, shift_stretches(book, [0])]:
            self.check(book, [0], thing, some_holes, False)
        for thing in NO_LISTS + [tuple(some_holes), some_pieces, [], some_holes * 2, shift_stretches(book, [0])]:
            self.check(book, [0], some_pieces, thing, False)
        self.check(book, [0], None, None, False)
        self.check(book, [0], [], [], False)
        self.check(book, [0], some_pieces + some_holes, [], False)

    def test_altered(self):
        many = 0
        for at, book in enumerate(shift_books("altered paper", 16)):
            others = some_of(book, at)
            some_pieces, some_holes = pieces(book, others), holes(book, others)
            for thing in altered(some_pieces):
                right = are_right_pieces(book, others, thing) and self.same_shifts(thing, some_pieces)
                self.check(book, others, thing, some_holes, right)
                many += 1
            judge = judge_of_holes(book, others)
            for thing in altered(some_holes):
                self.check(book, others, some_pieces, thing, judge(thing) and self.same_shifts(thing, some_holes))
                many += 1
        self.assertGreater(many, 1000)

    def same_shifts(self, rows, others):
        """Whether the same shifts stand in both."""
        ends = {end for row in rows + others for end in row[:2] if end is not None}
        shifts = {end + by for end in ends for by in (-1, 0, 1)} | {0}
        return all(self.holds(rows, shift) == self.holds(others, shift) for shift in shifts)

    def holds(self, rows, shift):
        return any((low is None or low <= shift) and (high is None or shift <= high) for low, high, _ in rows)


if __name__ == "__main__":
    unittest.main()
