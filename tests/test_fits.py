"""[41] fits, with [2], [3], [4], [5], [6], [8], [9], [11] and [12]."""

import unittest
from itertools import product

from earlyorlate.books import Book
from earlyorlate.errors import NoFit
from earlyorlate.fits import explained, fits, has_fit, is_explanation
from earlyorlate.reasons import is_reason, reason
from earlyorlate.steps import closure
from tests.helper import FAR, NEITHER, NO_INTEGERS, NO_KINDS, SameAsAll, ring_books
from tests.oracle import CONTRARY, all_kinds, altered, holds, is_true_reason, kinds_that_fit, mixed_books

E, L = "early", "late"


class ExplainedTest(unittest.TestCase):
    def check_fit(self, book):
        """Check that an explanation is found."""
        self.assertIs(has_fit(book), True)
        found = explained(book)
        self.assertIsInstance(found, tuple)
        self.assertEqual(len(found), 3)
        word, kinds, times = found
        self.assertEqual(word, "fits")
        self.assertEqual([kinds.__class__, times.__class__], [tuple, tuple])
        self.assertEqual([len(kinds), len(times)], [book.witnesses, book.events])
        self.assertTrue(all(time.__class__ is int for time in times))
        self.assertTrue(all(kind in (E, L) for kind in kinds))
        self.assertTrue(holds(book, kinds, times), found)
        self.assertIs(is_explanation(book, (kinds, times)), True)
        self.assertIs(fits(book, kinds), True)

    def check_no_fit(self, book):
        """Check that a reason is found."""
        self.assertIs(has_fit(book), False)
        found = explained(book)
        self.assertTrue(is_true_reason(book, found))
        self.assertIs(is_reason(book, found), True)
        if book.witnesses < 4:
            self.assertFalse(any(fits(book, kinds) for kinds in all_kinds(book)))

    def test_empty_books(self):
        self.assertEqual(explained(Book(0, 0)), ("fits", (), ()))
        for events, witnesses in product((0, 1, 8), repeat=2):
            self.check_fit(Book(events, witnesses))

    def test_clauses_alone(self):
        for clauses in ([(0, E, 0, E)], [(0, L, 0, L)], [(0, E, 0, L)], [(0, E, 1, L), (1, E, 0, L), (1, E, 1, E)],
                        [(0, E, 0, E), (0, E, 0, E)], [(0, L, 1, E), (1, L, 2, E), (2, L, 0, L)]):
            self.check_fit(Book(0, 3, [], [], [], clauses))
            self.check_fit(Book(0, 3, [], [], [], clauses).turned())
        self.check_no_fit(Book(0, 3, [], [], [], [(2, E, 2, E), (2, L, 2, L)]))
        self.check_no_fit(Book(0, 2, [], [], [], [(0, E, 1, E), (0, L, 1, E), (0, E, 1, L), (0, L, 1, L)]))

    def test_a_kind_that_is_only_known_in_the_end(self):
        clauses = [(w, L, w + 1, E) for w in range(7)]
        self.check_fit(Book(0, 8, [], [], [], clauses + [(7, L, 7, L)]))
        self.check_fit(Book(0, 8, [], [], [], clauses + [(0, E, 0, E)]))
        self.check_no_fit(Book(0, 8, [], [], [], clauses + [(7, L, 7, L), (0, E, 0, E)]))

    def test_gaps_and_bounds_without_witnesses(self):
        gaps = [(0, 1, 5), (1, 0, -7), (2, 1, -3), (3, 4, 9), (4, 3, -9)]
        for sure in ([], [(0, "least", 4)], [(0, "most", 4)], [(2, "least", 10), (0, "most", 9)],
                     [(0, "least", 4), (1, "most", 9)], [(4, "most", -4), (3, "least", -13)]):
            self.check_fit(Book(5, 0, [], gaps, sure))
            self.check_fit(Book(5, 0, [], gaps[::-1], sure[::-1]).turned())
        self.check_no_fit(Book(5, 0, [], gaps, [(0, "least", 4), (1, "most", 8)]))
        self.check_no_fit(Book(5, 0, [], gaps, [(4, "most", -5), (3, "least", -13)]))
        self.check_no_fit(Book(5, 0, [], gaps + [(0, 1, 8)]))

    def test_times_held_from_one_side_and_led_to_by_others(self):
        # Event 0 has no end of its own, event 1 a greatest time, event 2 a least one.
        gaps = [(0, 1, 3), (1, 2, 4), (3, 0, 2), (4, 5, 0)]
        for numbering in ((0, 1, 2, 3, 4, 5), (5, 4, 3, 2, 1, 0), (2, 0, 1, 5, 3, 4), (1, 2, 0, 4, 5, 3)):
            self.check_fit(Book(6, 0, [], gaps, [(1, "most", -5), (2, "least", 2)]).renamed(numbering, []))
            self.check_fit(Book(6, 0, [], gaps, [(2, "most", -5), (5, "least", 2)]).renamed(numbering, []))
            self.check_fit(Book(6, 0, [], gaps, [(2, "most", -5), (3, "least", -14)]).renamed(numbering, []))
            self.check_no_fit(Book(6, 0, [], gaps, [(2, "most", -5), (3, "least", -13)]).renamed(numbering, []))

    def test_bounds_and_tellings_that_just_meet(self):
        sure = [(0, "least", 6), (0, "most", 8)]
        self.check_fit(Book(1, 1, [(0, 0, 6), (0, 0, 9)], [], sure))
        self.check_fit(Book(1, 1, [(0, 0, 5), (0, 0, 8)], [], sure))
        self.check_no_fit(Book(1, 1, [(0, 0, 5), (0, 0, 9)], [], sure))
        self.check_fit(Book(2, 0, [], [(0, 1, 2)], [(0, "least", 5), (1, "most", 7)]))
        self.check_no_fit(Book(2, 0, [], [(0, 1, 2)], [(0, "least", 5), (1, "most", 6)]))

    def test_rings(self):
        for book in ring_books():
            self.check_no_fit(book)
        for there in (0, 5, -FAR + 1, FAR):
            self.check_fit(Book(2, 1, [(0, 0, 3), (0, 1, 3)], [(0, 1, there), (1, 0, -there)]))
            self.check_no_fit(Book(2, 1, [(0, 0, 3), (0, 1, 3)], [(0, 1, there), (1, 0, 1 - there)]))

    def test_great_numbers(self):
        rising = [(a, a + 1, FAR) for a in range(7)]
        for told in ([], [(0, 0, FAR)], [(0, 7, -FAR)], [(0, 3, FAR), (1, 3, -FAR)], [(0, 0, FAR), (0, 7, -FAR)]):
            self.check_fit(Book(8, 2, told, rising))
            self.check_fit(Book(8, 2, told, rising).turned())
            self.check_fit(Book(8, 2, told, [(a, b, -g) for a, b, g in rising]))
        self.check_no_fit(Book(8, 2, [], rising, [(0, "least", FAR), (7, "most", FAR)]))
        self.check_no_fit(Book(2, 0, [], [(0, 1, FAR)], [(0, "least", -FAR), (1, "most", -1)]))
        self.check_fit(Book(2, 0, [], [(0, 1, FAR)], [(0, "least", -FAR), (1, "most", 0)]))

    def test_24_items_in_each_part(self):
        tellings = [(at % 8, at * 3 % 8, at) for at in range(24)]
        gaps = [(at % 8, (at + 1 + at % 5) % 8, -30) for at in range(24)]
        sure = [(at % 8, ("least", "most")[at % 2], (-40, 40)[at % 2] + at) for at in range(24)]
        clauses = [(at % 8, (E, L)[at // 8 % 2], (at + 3) % 8, (L, E)[at % 2]) for at in range(24)]
        book = Book(8, 8, tellings, gaps, sure, clauses)
        self.assertEqual([len(part) for part in (book.tellings, book.gaps, book.sure, book.clauses)], [24] * 4)
        self.check_fit(book)
        self.check_no_fit(Book(8, 8, tellings, gaps, sure[:-1] + [(7, "most", -34)], clauses))

    def test_equal_items_twice(self):
        book = Book(2, 2, [(0, 0, 5), (1, 0, 3), (1, 1, 9)], [(0, 1, 2)], [(1, "most", 6)], [(0, L, 1, L)])
        self.check_fit(book.both(book))
        never = book.with_known(1, E)
        self.check_no_fit(never)
        self.check_no_fit(never.both(never))

    def test_small_books_against_all_kinds_and_times(self):
        fitting = 0
        for book in mixed_books("explained", 300, events=(0, 2)) + mixed_books("three", 60, events=(3, 3)):
            if kinds_that_fit(book, 3):
                self.check_fit(book)
                fitting += 1
            else:
                self.check_no_fit(book)
        self.assertTrue(60 < fitting < 300, fitting)

    def test_greater_books(self):
        fitting = 0
        for book in mixed_books("great", 400, events=(3, 8), witnesses=(3, 8), items=(1, 9), numbers=(-30, 30),
                                gaps=(-90, 15), clauses=(0, 6)):
            if explained(book)[0] == "fits":
                self.check_fit(book)
                fitting += 1
            else:
                self.check_no_fit(book)
        self.assertTrue(80 < fitting < 320, fitting)

    def test_the_book_stays_and_the_result_too(self):
        for made in ([1, 1, [(0, 0, 5), (0, 0, 9)], [], [(0, "least", 6), (0, "most", 8)], []],
                     [2, 2, [(0, 0, 5), (1, 1, 3)], [(0, 1, 2)], [(1, "most", 6)], [(0, E, 1, L)]]):
            book = Book(*made)
            self.assertEqual(explained(book), explained(book))
            self.assertIs(has_fit(book), has_fit(book))
            self.assertIs(fits(book, (E,) * book.witnesses), fits(book, (E,) * book.witnesses))
            self.assertEqual(book, Book(*made))


class FitsTest(unittest.TestCase):
    def check_all(self, book, right):
        for kinds in all_kinds(book):
            self.assertIs(fits(book, kinds), kinds in right, kinds)

    def test_tellings_and_a_bound(self):
        book = Book(1, 2, [(0, 0, 5), (1, 0, 4)])
        self.check_all(book, [(E, E), (L, E), (L, L)])
        self.check_all(Book(1, 2, [(0, 0, 5), (1, 0, 5)]), all_kinds(book))
        self.check_all(book.with_sure(0, "least", 5), [(E, E), (L, E)])
        self.check_all(book.with_sure(0, "least", 6), [(E, E)])
        self.check_all(book.with_sure(0, "most", 4), [(L, E), (L, L)])
        self.check_all(book.with_sure(0, "most", 3), [(L, L)])

    def test_clauses(self):
        for kind, other in product((E, L), repeat=2):
            right = [kinds for kinds in product((E, L), repeat=2) if kinds[0] == kind or kinds[1] == other]
            self.check_all(Book(0, 2, [], [], [], [(0, kind, 1, other)]), right)
            self.check_all(Book(1, 2, [], [], [], [(1, other, 0, kind)]), right)
            right = [kinds for kinds in product((E, L), repeat=2) if kinds[1] in (kind, other)]
            self.check_all(Book(0, 2, [], [], [], [(1, kind, 1, other)]), right)

    def test_ways(self):
        book = Book(3, 2, [(0, 0, 5), (1, 2, 8)], [(0, 1, 3), (1, 2, 1), (0, 2, 3)])
        self.check_all(book, [(E, E), (L, E), (L, L)])
        self.check_all(book.with_telling(1, 2, 9), [(E, E), (L, E), (L, L)])
        self.check_all(Book(3, 2, [(0, 0, 5), (1, 2, 9)], book.gaps), all_kinds(book))

    def test_books_whose_items_contradict_whoever_errs(self):
        for book in ring_books() + [Book(1, 1, [], [], [(0, "least", 1), (0, "most", 0)])]:
            self.check_all(book, [])
        self.assertIs(fits(Book(2, 0, [], [(0, 1, 1), (1, 0, 0)]), ()), False)
        self.assertIs(fits(Book(1, 0, [], [], [(0, "least", 1), (0, "most", 0)]), ()), False)

    def test_without_witnesses(self):
        for book in (Book(0, 0), Book(8, 0), Book(2, 0, [], [(0, 1, 1), (1, 0, -1)], [(0, "least", 1), (1, "most", 2)])):
            self.assertIs(fits(book, ()), True)

    def test_8_witnesses(self):
        book = Book(1, 8, [(w, 0, w) for w in range(8)])
        for kinds in all_kinds(book):
            self.assertIs(fits(book, kinds), (L, E) not in list(zip(kinds, kinds[1:])))

    def test_small_books_against_all_kinds_and_times(self):
        some = 0
        for book in mixed_books("fits", 250, events=(0, 2)) + mixed_books("fits three", 50, events=(3, 3)):
            right = kinds_that_fit(book, 3)
            self.check_all(book, right)
            some += 0 < len(right) < 2 ** book.witnesses
        self.assertGreater(some, 60)

    def test_kinds_fit_if_no_step_leads_away_from_them(self):
        # [6]
        for book in mixed_books("point 6", 120, events=(1, 4), witnesses=(1, 4), items=(0, 5), numbers=(-4, 4),
                                gaps=(-9, 2)):
            found = reason(book)
            if found is None or found[0] == "kinds":
                led = {(w, kind): closure(book, (w, kind)) for w in range(book.witnesses) for kind in (E, L)}
                self.check_all(book, [kinds for kinds in all_kinds(book)
                                      if all(kinds[v] == other for w in range(book.witnesses)
                                             for v, other in led[(w, kinds[w])])])
            else:
                self.check_all(book, [])

    def test_turned_and_greater_books(self):
        # [11] and [12]
        for book in mixed_books("turned", 80, events=(1, 4), witnesses=(1, 3), items=(0, 5), numbers=(-4, 4)):
            for kinds in all_kinds(book):
                contrary_kinds = tuple(CONTRARY[kind] for kind in kinds)
                self.assertIs(fits(book.turned(), contrary_kinds), fits(book, kinds))
                self.assertIs(fits(book.moved(FAR // 2), kinds), fits(book, kinds))
                if fits(book.with_telling(0, 0, 1).with_known(0, E), kinds):
                    self.assertIs(fits(book, kinds), True)


class IsExplanationTest(unittest.TestCase):
    book = Book(2, 3, [(0, 0, 5), (1, 1, 1), (2, 0, 0)], [(0, 1, -4)], [(1, "most", 6), (0, "least", 0)],
                [(0, L, 1, L), (2, E, 2, L)])

    def check_things(self, things, right, book=None):
        for thing in things:
            self.assertIs(is_explanation(book or self.book, thing), right, thing)

    def test_kinds_and_times(self):
        self.check_things([((L, L, E), (0, 0)), ((L, L, E), (5, 1)), ((E, L, E), (5, 1)), ((L, E, L), (0, 1)),
                           ((L, E, E), (5, 6))], True)

    def test_each_item_counts(self):
        self.check_things([((E, L, E), (4, 0)), ((L, L, E), (6, 2)), ((L, L, E), (5, 2)), ((L, E, E), (0, 0)),
                           ((L, E, L), (1, 1)), ((L, L, E), (5, 0)), ((L, E, E), (5, 7)), ((L, L, E), (-1, 0)),
                           ((E, E, E), (5, 1))], False)

    def test_times_of_any_size(self):
        book = Book(2, 1, [(0, 0, 5)])
        self.check_things([((E,), (5, 10 ** 40)), ((E,), (10 ** 59, -10 ** 59)), ((L,), (-10 ** 40, 0))], True, book)
        self.check_things([((L,), (10 ** 40, 0)), ((E,), (-10 ** 40, 10 ** 40))], False, book)

    def test_truths(self):
        self.check_things([((L, L, E), (0, False)), ((L, L, E), (False, 0)), ((L, E, L), (0, True)),
                           ((L, L, True), (0, 0)), ((L, False, E), (0, 0))], False)
        self.check_things([((L, E, L), (0, 1))], True)

    def test_lists(self):
        self.check_things([[(L, L, E), (0, 0)], ([L, L, E], (0, 0)), ((L, L, E), [0, 0]), [[L, L, E], [0, 0]]], False)

    def test_too_few_and_too_many(self):
        self.check_things([((L, L), (0, 0)), ((L, L, E, E), (0, 0)), ((L, L, E), (0,)), ((L, L, E), (0, 0, 0)),
                           ((L, L, E), ()), ((), (0, 0)), ((), ()), ((L, L, E),), ((0, 0),), (),
                           ((L, L, E), (0, 0), ()), ("fits", (L, L, E), (0, 0)), ((0, 0), (L, L, E))], False)

    def test_parts_that_are_none(self):
        for thing in NO_INTEGERS + [SameAsAll(), "0"]:
            self.check_things([((L, L, E), (0, thing)), ((L, L, E), (thing, 0)), ((L, L, E), thing), (thing, (0, 0)),
                               (thing, thing), ((L, L, E), (0, 0), thing)], False)
        for thing in NO_KINDS:
            self.check_things([((L, L, thing), (0, 0)), ((thing, L, E), (0, 0))], False)

    def test_other_values(self):
        self.check_things(NEITHER + [SameAsAll(), self.book, NoFit(0), 0, "", "ll", (None, None), ("lle", (0, 0)),
                                     explained(self.book), reason(self.book), {0: 0, 1: 1}], False)

    def test_books_without_events_or_witnesses(self):
        self.check_things([((), ())], True, Book(0, 0))
        self.check_things([((E,), ()), ((L,), ())], True, Book(0, 1))
        self.check_things([((), (3,)), ((), (-3,))], True, Book(1, 0))
        self.check_things([((E,), ())], False, Book(0, 1, [], [], [], [(0, L, 0, L)]))
        self.check_things([((), ()), ((), (2,)), ((E,), (3,))], False, Book(1, 0, [], [], [(0, "least", 3)]))
        self.check_things([((), ((),)), ([], []), ((), []), ((), None), (), None, ((),), ((), (), ())], False, Book(0, 0))

    def test_what_was_told_with_a_part_altered(self):
        for book in [self.book] + mixed_books("altered", 30, events=(1, 3), witnesses=(1, 3)):
            word, *found = explained(book)
            if word == "fits":
                self.check_things([tuple(found)], True, book)
                for thing in altered(tuple(found)):
                    self.check_things([thing], self.is_right(book, thing), book)

    def is_right(self, book, thing):
        """Whether an altered explanation is one: kinds and times of the right form, and all items hold."""
        if repr(thing).replace("True", "").replace("False", "") != repr(thing) or not isinstance(thing, tuple):
            return False
        if [part.__class__ for part in thing] != [tuple, tuple]:
            return False
        kinds, times = thing
        if [len(kinds), len(times)] != [book.witnesses, book.events]:
            return False
        return (all(kind in (E, L) for kind in kinds) and all(time.__class__ is int for time in times)
                and holds(book, kinds, times))

    def test_all_small_kinds_and_times(self):
        many = 0
        for book in mixed_books("is explanation", 100, events=(0, 2), witnesses=(0, 2)):
            for kinds in all_kinds(book):
                for times in product(range(-2, 3), repeat=book.events):
                    self.assertIs(is_explanation(book, (kinds, times)), holds(book, kinds, times))
                    many += holds(book, kinds, times)
        self.assertGreater(many, 200)


class GuaranteesTest(unittest.TestCase):
    def some_explanations(self, book, reach):
        return [(kinds, times) for kinds in all_kinds(book)
                for times in product(range(-reach, reach + 1), repeat=book.events) if holds(book, kinds, times)]

    def test_middles(self):
        # [8]
        for book in mixed_books("middles", 25, events=(1, 2), witnesses=(1, 3), items=(1, 4), numbers=(-2, 2)):
            found = self.some_explanations(book, 3)[::17][:9]
            for three in product(found, repeat=3):
                kinds = tuple(sorted(some)[1] for some in zip(*[kinds for kinds, _ in three]))
                times = tuple(sorted(some)[1] for some in zip(*[times for _, times in three]))
                self.assertIs(is_explanation(book, (kinds, times)), True)

    def test_plain_books(self):
        # [9]
        many = 0
        for book in mixed_books("plain", 60, events=(1, 2), witnesses=(1, 3), items=(0, 3), numbers=(-2, 2), gaps=(-3, 0),
                                clauses=(0, 2)):
            if book.is_plain():
                for one, other in product(self.some_explanations(book, 3)[::11][:12], repeat=2):
                    # "early" is less than "late".
                    joined = tuple(map(min, one[0], other[0])), tuple(map(max, one[1], other[1]))
                    met = tuple(map(max, one[0], other[0])), tuple(map(min, one[1], other[1]))
                    self.assertIs(is_explanation(book, joined), True)
                    self.assertIs(is_explanation(book, met), True)
                    many += 1
        self.assertGreater(many, 300)


class ExamplesTest(unittest.TestCase):
    def test_examples_of_the_document(self):
        book = Book(2, 2, [(0, 0, 5), (1, 0, 3), (1, 1, 9)], [(0, 1, 2)], [(1, "most", 6)])
        self.assertEqual([has_fit(book), fits(book, (L, L)), fits(book, (L, E)),
                          is_explanation(book, ((L, L), (3, 6)))], [True, True, False, True])
        never = book.with_known(1, E)
        self.assertEqual([has_fit(never), explained(never)[0], is_reason(never, explained(never))],
                         [False, "kinds", True])


if __name__ == "__main__":
    unittest.main()
