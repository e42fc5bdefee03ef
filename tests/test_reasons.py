"""[40] reasons, with [2], [3], [4] and [5]."""

import unittest

from earlyorlate.books import Book
from earlyorlate.errors import NoFit
from earlyorlate.fits import explained
from earlyorlate.links import link
from earlyorlate.reasons import is_reason, reason
from earlyorlate.steps import step, steps_to
from earlyorlate.ways import ring, way
from tests.helper import FAR, NEITHER, NO_INTEGERS, SameAsAll, ring_books
from tests.oracle import (all_links, all_steps, altered, goes_round, is_true_reason, judge_of_reasons, kinds_that_fit,
                          mixed_books, walks)

E, L = "early", "late"


class ReasonTest(unittest.TestCase):
    def check_reason(self, book, word):
        """Check the reason of a book, which has this word, or that there is none, for None."""
        found = reason(book)
        if word is None:
            self.assertIsNone(found)
            return
        self.assertIsInstance(found, tuple)
        self.assertEqual(found[0], word)
        self.assertIsInstance(found[1], tuple)
        self.assertTrue(is_true_reason(book, found), found)
        self.assertIs(is_reason(book, found), True)

    def test_rings_above_at_and_below_zero(self):
        for there in (-5, 0, 7, FAR - 2):
            for more in (-2, -1, 0, 1):
                book = Book(3, 1, [(0, 0, 5)], [(0, 2, there), (2, 0, more - there)])
                self.check_reason(book, "gaps" if more > 0 else None)
        for book in ring_books():
            self.check_reason(book, "gaps")

    def test_bounds_that_just_meet_and_just_do_not(self):
        for low, g, high in ((5, 2, 7), (0, -3, -3), (-FAR, FAR, 0), (FAR, -FAR, 0)):
            sure = [(0, "least", low), (1, "most", high)]
            self.check_reason(Book(2, 1, [], [(0, 1, g)], sure), None)
            self.check_reason(Book(2, 1, [], [(0, 1, g)], sure + [(1, "most", high - 1)]), "bounds")
            self.check_reason(Book(2, 1, [], [(0, 1, g), (0, 1, g + 1)] if g < FAR else [], sure),
                              "bounds" if g < FAR else None)

    def test_kinds_by_clauses(self):
        known = [(0, E, 0, E), (0, L, 0, L)]
        self.check_reason(Book(0, 1, [], [], [], known), "kinds")
        self.check_reason(Book(0, 1, [], [], [], known[:1]), None)
        self.check_reason(Book(0, 1, [], [], [], known[1:]), None)
        self.check_reason(Book(0, 1, [], [], [], [(0, E, 0, L), (0, L, 0, E)]), None)
        both = [(0, E, 1, E), (0, L, 1, E), (0, E, 1, L), (0, L, 1, L)]
        self.check_reason(Book(0, 2, [], [], [], both), "kinds")
        for at in range(4):
            self.check_reason(Book(0, 2, [], [], [], both[:at] + both[at + 1:]), None)

    def test_kinds_by_links(self):
        sure = [(0, "least", 6), (0, "most", 8)]
        self.check_reason(Book(1, 1, [(0, 0, 5), (0, 0, 9)], [], sure), "kinds")
        self.check_reason(Book(1, 1, [(0, 0, 6), (0, 0, 9)], [], sure), None)
        self.check_reason(Book(1, 1, [(0, 0, 5), (0, 0, 8)], [], sure), None)
        told = [(0, 0, 5), (0, 1, 20), (1, 1, 19), (1, 0, 9)]
        self.check_reason(Book(2, 2, told, [], sure), "kinds")
        self.check_reason(Book(2, 2, told, [(0, 1, 3)], sure), "kinds")
        for at in range(4):
            self.check_reason(Book(2, 2, told[:at] + told[at + 1:], [], sure), None)
        told[2] = (1, 1, 20)
        self.check_reason(Book(2, 2, told, [], sure), None)

    def test_kinds_by_a_long_row(self):
        clauses = [(w, L, w + 1, E) for w in range(7)]
        book = Book(1, 8, [(7, 0, 5)], [], [(0, "most", 4)], clauses)
        self.check_reason(book, None)
        self.check_reason(book.with_known(0, E), "kinds")
        self.check_reason(book.with_clause(0, E, 7, E), "kinds")
        self.check_reason(book.with_clause(0, L, 7, L), None)

    def test_one_of_several_reasons(self):
        book = Book(2, 1, [], [(0, 1, 2), (1, 0, -1)], [(0, "least", 5), (1, "most", 6)],
                    [(0, E, 0, E), (0, L, 0, L)])
        found = reason(book)
        self.assertTrue(is_true_reason(book, found))
        self.assertIn(reason(book.without("gaps", 1))[0], ("bounds", "kinds"))
        self.check_reason(book.without("gaps", 1).without("sure", 0), "kinds")

    def test_no_reason(self):
        for book in (Book(0, 0), Book(8, 8), Book(8, 0), Book(0, 8), Book(1, 1, [(0, 0, 5), (0, 0, 7)])):
            self.check_reason(book, None)

    def test_24_items_in_a_part(self):
        tellings = [(at % 8, at % 8, at) for at in range(24)]
        gaps = [(at % 7, at % 7 + 1, at) for at in range(24)]
        sure = [(at % 8, "least", -at) for at in range(24)]
        clauses = [(at % 8, E, (at + 1) % 8, E) for at in range(24)]
        book = Book(8, 8, tellings, gaps, sure, clauses)
        self.check_reason(book, None)
        self.check_reason(Book(8, 8, tellings, gaps[:23] + [(7, 0, 0)], sure, clauses), "gaps")
        self.check_reason(Book(8, 8, tellings, gaps, sure[:23] + [(7, "most", 0)], clauses), "bounds")
        self.check_reason(Book(8, 8, tellings, gaps, sure, clauses[:22] + [(3, L, 3, L), (3, E, 3, E)]), "kinds")

    def test_small_books_against_all_kinds_and_times(self):
        words = {None: 0, "gaps": 0, "bounds": 0, "kinds": 0}
        for book in mixed_books("reason", 400, events=(0, 2), witnesses=(0, 3)):
            if kinds_that_fit(book, 3):
                self.check_reason(book, None)
                words[None] += 1
            else:
                self.check_reason(book, reason(book)[0])
                words[reason(book)[0]] += 1
        self.assertGreater(min(words.values()), 10, words)

    def test_greater_books(self):
        words = {"fits": 0, "gaps": 0, "bounds": 0, "kinds": 0}
        for book in mixed_books("greater", 300, events=(4, 8), witnesses=(4, 8), items=(1, 12), numbers=(-30, 30),
                                gaps=(-70, 15)):
            word = explained(book)[0]
            words[word] += 1
            self.check_reason(book, None if word == "fits" else word)
        self.assertGreater(min(words.values()), 10, words)

    def test_the_book_stays_and_the_result_too(self):
        for made in ([1, 1, [(0, 0, 5), (0, 0, 9)], [], [(0, "least", 6), (0, "most", 8)], []],
                     [2, 1, [(0, 0, 5)], [(0, 1, 3), (1, 0, -2)]], [1, 1, [(0, 0, 5)]]):
            book = Book(*made)
            found = reason(book)
            is_reason(book, found)
            self.assertEqual(reason(book), found)
            self.assertEqual(book, Book(*made))


class IsReasonTest(unittest.TestCase):
    book = Book(3, 2, [(0, 0, 5), (1, 1, 3), (0, 0, 1)], [(0, 1, 2), (1, 0, -2), (1, 2, 1), (2, 1, 0)],
                [(1, "most", 6), (0, "least", 5), (0, "least", 3)], [(0, L, 1, L), (0, E, 0, E), (1, L, 0, E)])

    def check_things(self, things, holds, book=None):
        for thing in things:
            self.assertIs(is_reason(book or self.book, thing), holds, thing)

    def test_ways_around(self):
        self.check_things([("gaps", around) for around in ((2, 3), (3, 2), (0, 2, 3, 1), (2, 3) * 500)], True)
        self.check_things([("gaps", around) for around in ((0, 1), (1, 0), (), (0,), (2,), (0, 2, 3), (3,), (2, 2))],
                          False)
        self.check_things([("gaps", around) for around in ([2, 3], (True,), (2, 3, False), (2, -1), (4,), (-2, -1))],
                          False)
        self.check_things([("gaps", (0, 1))], True, Book(2, 0, [], [(0, 1, 3), (1, 0, -2)]))
        self.check_things([("gaps", (False, True)), ("gaps", (0, True)), ("gaps", (False, 1))], False,
                          Book(2, 0, [], [(0, 1, 3), (1, 0, -2)]))

    def test_links_of_two_bounds(self):
        self.check_things([("bounds", (("sure", 1), (0,), ("sure", 0))),
                           ("bounds", (("sure", 2), (0, 2, 3, 2, 3), ("sure", 0)))], True)
        self.check_things([("bounds", (("sure", 2), (0,), ("sure", 0))), ("bounds", (("told", 0), (0,), ("sure", 0))),
                           ("bounds", (("sure", 1), (0,), ("told", 1))), ("bounds", (("told", 0), (0,), ("told", 1))),
                           ("bounds", (("sure", True), (0,), ("sure", 0))), ("bounds", [("sure", 1), (0,), ("sure", 0)]),
                           ("bounds", (("sure", 1), (False,), ("sure", 0))),
                           ("bounds", (("sure", 1), (0,), ("sure", False)))], False)

    def test_circles_of_steps(self):
        to_late = ((0, E), ("link", (("told", 0), (0,), ("sure", 0))), (0, L))
        to_early = ((0, L), ("clause", 1), (0, E))
        about = ((0, E), ("clause", 0), (1, L))
        back = ((1, E), ("clause", 0), (0, L))
        on = ((1, L), ("link", (("sure", 1), (0,), ("told", 1))), (1, E))
        stay = ((0, E), ("link", (("told", 0), (), ("told", 2))), (0, E))
        self.check_things([("kinds", steps) for steps in (
            (to_late, to_early), (to_early, to_late), (about, on, back, to_early), (on, back, to_early, about),
            (to_late, to_early, to_late, to_early), (stay, stay, to_late, to_early), (to_late, to_early, stay),
            (to_late, to_early, about, on, back, to_early))], True)
        self.check_things([("kinds", steps) for steps in (
            (), (to_late,), (to_early,), (stay,), (stay, stay), (to_late, to_late), (to_late, to_early, to_late),
            (about, on), (about, on, back), (about, back, to_early), (about, on, to_late, to_early), (to_early, stay),
            (to_late, stay, to_early), (to_late, to_early, on), [to_late, to_early])], False)

    def test_a_circle_without_contraries(self):
        book = Book(0, 3, [], [], [], [(0, L, 1, E), (1, L, 2, E), (2, L, 0, E), (0, E, 0, L)])
        steps = tuple(((w, E), ("clause", w), ((w + 1) % 3, E)) for w in range(3))
        self.check_things([("kinds", steps), ("kinds", (((0, E), ("clause", 3), (0, E)),))], False, book)
        self.assertFalse(goes_round(steps))

    def test_a_circle_that_only_ends_with_a_contrary(self):
        # No step begins with (0, "late"), though some end with it.
        book = Book(0, 2, [], [], [], [(0, L, 0, L), (0, L, 1, E), (1, L, 0, E)])
        self.check_things([("kinds", (((0, E), ("clause", 0), (0, L)),)),
                           ("kinds", (((0, E), ("clause", 1), (1, E)), ((1, E), ("clause", 2), (0, L))))], False, book)

    def test_words(self):
        around, bounds = (2, 3), (("sure", 1), (0,), ("sure", 0))
        steps = (((0, E), ("link", (("told", 0), (0,), ("sure", 0))), (0, L)), ((0, L), ("clause", 1), (0, E)))
        for word, what in (("gaps", around), ("bounds", bounds), ("kinds", steps)):
            self.check_things([(word, what)], True)
            self.check_things([(other, what) for other in ("gaps", "bounds", "kinds", "link", "fits") if other != word],
                              False)
            self.check_things([(thing, what) for thing in NO_INTEGERS + ["gap", "Gaps", "kinds ", b"gaps", 0]], False)
            self.check_things([(word, what, 0), (word, what, what), (word,), (what, word), (what,), what, [word, what],
                               (word, [what]), (word, (what,)), ((word, what),), word], False)

    def test_parts_that_are_none(self):
        for thing in NO_INTEGERS + [SameAsAll(), 0, 1, -1, 10 ** 30, "gaps"]:
            self.check_things([("gaps", thing), ("bounds", thing), ("kinds", thing), ("kinds", (thing,)),
                               ("gaps", (2, 3, thing)), ("bounds", (("sure", 1), thing, ("sure", 0), 0)),
                               (thing, thing), (thing, (2, 3), thing)], False)

    def test_other_values(self):
        made = [self.book, way(Book(1, 0), 0, 0), explained(Book(2, 2)), NoFit(("gaps", (2, 3)))]
        self.check_things(NEITHER + made + [SameAsAll(), 0, (), ((), ()), (None, None), [[], []]], False)
        book = Book(1, 2, [(0, 0, 5), (1, 0, 4)], [], [(0, "least", 5)])
        self.check_things([link(book, ("told", 0), ("told", 1)), step(book, (0, E), (1, E)),
                           steps_to(book, (0, E), (1, E)), ("kinds", steps_to(book, (0, E), (1, E)))], False, book)

    def test_what_was_told_with_a_part_altered(self):
        for book in self.books_with_reasons():
            found = reason(book)
            self.check_things([found], True, book)
            right = judge_of_reasons(book, 9 if found[0] == "gaps" else 4)
            for thing in altered(found):
                self.check_things([thing], right(thing), book)

    def books_with_reasons(self):
        ring_book = Book(3, 0, [], [(0, 1, 1), (1, 2, 1), (2, 0, -1), (1, 0, 0), (1, 2, 1)])
        bounds_book = Book(2, 1, [(0, 0, 5)], [(0, 1, 2), (0, 1, 1), (1, 0, -2)],
                           [(1, "most", 6), (0, "least", 5), (1, "least", 9)])
        kinds_book = Book(1, 2, [(0, 0, 5), (0, 0, 9), (1, 0, 8)], [], [(0, "least", 6), (0, "most", 8)],
                          [(1, L, 0, E)])
        clauses_book = Book(0, 2, [], [], [], [(0, E, 1, E), (0, L, 1, E), (0, E, 1, L), (0, L, 1, L)])
        return [ring_book, bounds_book, kinds_book, clauses_book]

    def test_a_reason_of_another_book(self):
        sure = [(0, "least", 6), (0, "most", 8)]
        book = Book(1, 1, [(0, 0, 5), (0, 0, 9)], [], sure)
        self.check_things([reason(book)], True, book.with_telling(0, 0, 7))
        self.check_things([reason(book)], False, Book(1, 1, [(0, 0, 6), (0, 0, 9)], [], sure))
        self.check_things([reason(book)], False, Book(1, 1, [(0, 0, 5)], [], sure))
        self.check_things([reason(book)], False, Book(1, 1))

    def test_books_with_an_explanation_have_no_reason(self):
        fitting = 0
        for book in mixed_books("never both", 60, events=(0, 2), witnesses=(0, 2), items=(0, 3)):
            if explained(book)[0] == "fits":
                fitting += 1
                things = [("gaps", around) for e in range(book.events) for around in walks(book, e, e, 4)]
                things += [("bounds", some) for some in all_links(book, 2)]
                steps = all_steps(book, 2)
                things += [("kinds", (some,)) for some in steps]
                things += [("kinds", (some, other)) for some in steps for other in steps]
                self.check_things(things, False, book)
        self.assertGreater(fitting, 20)

    def test_empty_books(self):
        for book in (Book(0, 0), Book(0, 8), Book(8, 0)):
            self.check_things([("gaps", ()), ("gaps", (0,)), ("gaps", (-1,)), ("bounds", ()), ("kinds", ()),
                               ("kinds", ((),)), (), None], False, book)


class ExamplesTest(unittest.TestCase):
    def test_examples_of_the_document(self):
        book = Book(2, 2, [(0, 0, 5), (1, 0, 3), (1, 1, 9)], [(0, 1, 2)], [(1, "most", 6)])
        never = book.with_known(1, E)
        self.assertIsNone(ring(never))
        self.assertEqual([reason(never)[0], is_reason(never, reason(never)), reason(book)], ["kinds", True, None])


if __name__ == "__main__":
    unittest.main()
