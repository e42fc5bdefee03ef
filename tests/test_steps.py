"""[32] steps, with [2], [3] and [4]."""

import unittest
from itertools import product

from earlyorlate.books import Book
from earlyorlate.errors import NoFit
from earlyorlate.links import link
from earlyorlate.reasons import reason
from earlyorlate.steps import closure, implied, is_step, step, steps_to
from earlyorlate.ways import ring
from tests.helper import FAR, NEITHER, NO_INTEGERS, NO_KINDS, SameAsAll, check_no_fit_by_gaps, ring_books
from tests.oracle import all_literals, all_steps, altered, is_true_step, mixed_books

E, L = "early", "late"


def led_to(book):
    """A dict of the literals to which a step leads from each one, by the definition."""
    found = {one: set() for one in all_literals(book)}
    for one, _, other in all_steps(book, book.events):
        found[one].add(other)
    return found


def distances(found, one):
    """How many steps are needed to each literal to which some lead."""
    far = {one: 0}
    for many in range(1, 17):
        for literal in [some for some in far if far[some] == many - 1]:
            for other in found[literal]:
                far.setdefault(other, many)
    return far


class LedTest(unittest.TestCase):
    """What the four functions that follow steps have in common."""

    def check_book(self, book, found):
        """Check all results, with a dict of the literals to which a step leads from each one."""
        for one in all_literals(book):
            far = distances(found, one)
            self.assertEqual(implied(book, one), sorted(found[one] - {one}), one)
            self.assertEqual(closure(book, one), sorted(far), one)
            for other in all_literals(book):
                self.check_step(book, one, other, other in found[one])
                self.check_steps_to(book, one, other, far.get(other))

    def check_step(self, book, one, other, there_is_one):
        found = step(book, one, other)
        if not there_is_one:
            self.assertIsNone(found)
            return
        self.assertEqual((found[0], found[2]), (one, other))
        self.assertTrue(is_true_step(book, found))
        self.assertIs(is_step(book, found), True)

    def check_steps_to(self, book, one, other, many):
        found = steps_to(book, one, other)
        if many is None:
            self.assertIsNone(found)
            return
        self.assertIsInstance(found, list)
        self.assertEqual(len(found), many)
        for taken in found:
            self.assertTrue(is_true_step(book, taken))
            self.assertIs(is_step(book, taken), True)
        self.assertEqual([one] + [taken[2] for taken in found], [taken[0] for taken in found] + [other])

    def check_pairs(self, book, *pairs):
        """Check a book in which a step leads just from the first to the second literal of each pair."""
        found = {one: set() for one in all_literals(book)}
        for one, other in pairs:
            found[one].add(other)
        self.check_book(book, found)


class ClausesTest(LedTest):
    def test_two_witnesses(self):
        self.check_pairs(Book(0, 2, [], [], [], [(0, E, 1, E)]), ((0, L), (1, E)), ((1, L), (0, E)))
        self.check_pairs(Book(0, 2, [], [], [], [(0, E, 1, L)]), ((0, L), (1, L)), ((1, E), (0, E)))
        self.check_pairs(Book(0, 2, [], [], [], [(0, L, 1, E)]), ((0, E), (1, E)), ((1, L), (0, L)))
        self.check_pairs(Book(0, 2, [], [], [], [(1, L, 0, L)]), ((1, E), (0, L)), ((0, E), (1, L)))

    def test_one_witness_twice_with_equal_kinds(self):
        self.check_pairs(Book(0, 2, [], [], [], [(1, E, 1, E)]), ((1, L), (1, E)))
        self.check_pairs(Book(0, 2, [], [], [], [(0, L, 0, L)]), ((0, E), (0, L)))

    def test_one_witness_twice_with_contrary_kinds(self):
        self.check_pairs(Book(0, 2, [], [], [], [(1, E, 1, L)]), ((1, L), (1, L)), ((1, E), (1, E)))
        self.check_pairs(Book(0, 1, [], [], [], [(0, L, 0, E)]), ((0, L), (0, L)), ((0, E), (0, E)))

    def test_a_kind_known_both_ways(self):
        self.check_pairs(Book(0, 1, [], [], [], [(0, L, 0, L), (0, E, 0, E)]), ((0, L), (0, E)), ((0, E), (0, L)))

    def test_equal_clauses(self):
        book = Book(0, 2, [], [], [], [(0, E, 1, E), (0, E, 1, E), (1, E, 0, E)])
        self.check_pairs(book, ((0, L), (1, E)), ((1, L), (0, E)))


class LinksTest(LedTest):
    def test_two_tellings(self):
        self.check_pairs(Book(1, 2, [(0, 0, 5), (1, 0, 4)]), ((0, E), (1, E)), ((1, L), (0, L)))
        self.check_pairs(Book(1, 2, [(0, 0, 5), (1, 0, 5)]))
        self.check_pairs(Book(1, 2, [(0, 0, 5), (1, 0, 6)]), ((1, E), (0, E)), ((0, L), (1, L)))
        self.check_pairs(Book(2, 2, [(0, 0, 5), (1, 1, 6)], [(0, 1, 2)]), ((0, E), (1, E)), ((1, L), (0, L)))
        self.check_pairs(Book(2, 2, [(0, 0, 5), (1, 1, 7)], [(0, 1, 2)]))

    def test_two_tellings_of_one_witness(self):
        self.check_pairs(Book(1, 2, [(1, 0, 5), (1, 0, 4)]), ((1, E), (1, E)), ((1, L), (1, L)))
        self.check_pairs(Book(1, 1, [(0, 0, 5), (0, 0, 5)]))

    def test_a_telling_above_a_bound(self):
        self.check_pairs(Book(1, 2, [(1, 0, 5)], [], [(0, "most", 4)]), ((1, E), (1, L)))
        self.check_pairs(Book(1, 2, [(1, 0, 5)], [], [(0, "most", 5)]))
        self.check_pairs(Book(2, 1, [(0, 0, 5)], [(0, 1, -3)], [(1, "most", 1)]), ((0, E), (0, L)))
        self.check_pairs(Book(2, 1, [(0, 0, 5)], [(0, 1, -3)], [(1, "most", 2)]))

    def test_a_telling_below_a_bound(self):
        self.check_pairs(Book(1, 2, [(1, 0, 5)], [], [(0, "least", 6)]), ((1, L), (1, E)))
        self.check_pairs(Book(1, 2, [(1, 0, 5)], [], [(0, "least", 5)]))
        self.check_pairs(Book(2, 1, [(0, 1, 5)], [(0, 1, -3)], [(0, "least", 9)]), ((0, L), (0, E)))
        self.check_pairs(Book(2, 1, [(0, 1, 5)], [(0, 1, -3)], [(0, "least", 8)]))

    def test_two_bounds_make_no_step(self):
        self.check_pairs(Book(1, 2, [], [], [(0, "least", 6), (0, "most", 5)]))
        self.check_pairs(Book(1, 0, [], [], [(0, "least", 6), (0, "most", 5)]))

    def test_great_numbers(self):
        book = Book(8, 2, [(0, 0, -FAR), (1, 7, FAR)], [(a, a + 1, FAR) for a in range(7)])
        self.check_pairs(book, ((0, E), (1, E)), ((1, L), (0, L)))
        self.check_pairs(Book(1, 2, [(0, 0, FAR), (1, 0, FAR - 1)]), ((0, E), (1, E)), ((1, L), (0, L)))
        self.check_pairs(Book(3, 2, [(0, 0, -FAR), (1, 2, FAR)], [(0, 1, FAR), (1, 2, FAR)]))
        turned = Book(3, 2, [(0, 0, FAR), (1, 2, -FAR)], [(0, 1, -FAR), (1, 2, 1 - FAR)])
        self.check_pairs(turned, ((0, E), (1, E)), ((1, L), (0, L)))

    def test_equal_tellings(self):
        book = Book(1, 2, [(0, 0, 5), (0, 0, 5), (1, 0, 4), (1, 0, 4)])
        self.check_pairs(book, ((0, E), (1, E)), ((1, L), (0, L)))


class BooksTest(LedTest):
    def test_no_events_and_no_witnesses(self):
        self.check_pairs(Book(0, 3))
        self.check_pairs(Book(0, 0))
        self.check_pairs(Book(8, 0, [], [(0, 1, 3)], [(1, "least", 4)]))
        self.check_pairs(Book(8, 8))

    def test_a_long_row_of_clauses(self):
        clauses = [(w, L, w + 1, E) for w in range(7)]
        pairs = [((w, E), (w + 1, E)) for w in range(7)] + [((w + 1, L), (w, L)) for w in range(7)]
        self.check_pairs(Book(0, 8, [], [], [], clauses), *pairs)
        self.check_pairs(Book(0, 8, [], [], [], clauses + [(7, L, 0, L)]), *pairs, ((7, E), (0, L)), ((0, E), (7, L)))

    def test_a_short_way_beside_a_long_one(self):
        clauses = [(0, L, 1, E), (1, L, 2, E), (2, L, 3, E), (0, L, 3, E), (3, L, 4, E)]
        for mixed in (clauses, clauses[::-1]):
            book = Book(0, 5, [], [], [], mixed)
            self.assertEqual([len(steps_to(book, (0, E), (w, E))) for w in range(5)], [0, 1, 2, 1, 2])
            self.assertEqual([len(steps_to(book, (4, L), (w, L))) for w in range(5)], [2, 3, 2, 1, 0])

    def test_from_a_literal_to_itself(self):
        book = Book(1, 2, [(0, 0, 5), (0, 0, 4), (1, 0, 4)], [], [], [(0, E, 0, L), (1, L, 0, E)])
        for one in all_literals(book):
            self.assertEqual(steps_to(book, one, one), [])
            self.assertNotIn(one, implied(book, one))
            self.assertIn(one, closure(book, one))

    def test_24_items_in_each_part(self):
        tellings = [(at % 8, at % 8, 100 - at) for at in range(24)]
        gaps = [(at % 8, (at + 1) % 8, -at) for at in range(24)]
        sure = [(at % 8, ("least", "most")[at % 2], (60, 120)[at % 2] - at) for at in range(24)]
        clauses = [(at % 8, (E, L)[at % 2], (at + 3) % 8, (L, E)[at % 2]) for at in range(24)]
        book = Book(8, 8, tellings, gaps, sure, clauses)
        self.assertIsNone(ring(book))
        for one, other in product(all_literals(book), repeat=2):
            found = step(book, one, other)
            if found is not None:
                self.assertTrue(is_true_step(book, found))
            self.assertEqual(found is not None, other in implied(book, one) or found is not None and one == other)
            path = steps_to(book, one, other)
            self.assertEqual(path is not None, other in closure(book, one))
            for taken in path or []:
                self.assertTrue(is_true_step(book, taken))

    def test_a_ring(self):
        for book in ring_books():
            for one, other in product(all_literals(book), repeat=2):
                check_no_fit_by_gaps(self, book, step, one, other)
                check_no_fit_by_gaps(self, book, implied, one)
                check_no_fit_by_gaps(self, book, closure, one)
                check_no_fit_by_gaps(self, book, steps_to, one, other)

    def test_no_ring_but_another_reason(self):
        book = Book(2, 1, [(0, 0, 5)], [(0, 1, 2), (1, 0, -2)], [(0, "least", 5), (1, "most", 6)],
                    [(0, E, 0, E), (0, L, 0, L)])
        self.assertEqual(reason(book)[0], "bounds")
        self.check_pairs(book, ((0, E), (0, L)), ((0, L), (0, E)))

    def test_books_as_they_come(self):
        rings = many = 0
        for book in mixed_books("steps", 250, items=(0, 4), numbers=(-2, 2), gaps=(-3, 1)):
            if ring(book) is None:
                self.check_book(book, led_to(book))
                many += 1
                continue
            rings += 1
            for one, other in product(all_literals(book), repeat=2):
                check_no_fit_by_gaps(self, book, steps_to, one, other)
                check_no_fit_by_gaps(self, book, step, one, other)
        self.assertTrue(rings > 10 and many > 100, (rings, many))

    def test_books_of_many_witnesses(self):
        for book in mixed_books("witnesses", 40, events=(1, 2), witnesses=(6, 8), items=(2, 6), numbers=(-3, 3),
                                gaps=(-3, 0)):
            self.check_book(book, led_to(book))

    def test_returned_lists_belong_to_the_caller(self):
        book = Book(1, 3, [(0, 0, 5), (1, 0, 4)], [], [], [(1, L, 2, E)])
        for call, arguments in ((implied, [(0, E)]), (closure, [(0, E)]), (steps_to, [(0, E), (2, E)]),
                                (steps_to, [(0, E), (0, E)])):
            first = call(book, *arguments)
            kept = list(first)
            first.append("more")
            first.reverse()
            self.assertEqual(call(book, *arguments), kept)
            self.assertIsNot(call(book, *arguments), first)

    def test_the_book_stays_and_the_result_too(self):
        made = [2, 2, [(0, 0, 5), (1, 1, 3)], [(0, 1, 2)], [(1, "most", 6)], [(0, E, 1, L)]]
        book, one = Book(*made), (0, E)
        for call in (lambda: step(book, one, (0, L)), lambda: implied(book, one), lambda: closure(book, one),
                     lambda: steps_to(book, one, (1, E)), lambda: is_step(book, step(book, one, (0, L)))):
            self.assertEqual(call(), call())
        self.assertEqual(book, Book(*made))
        self.assertEqual(made, [2, 2, [(0, 0, 5), (1, 1, 3)], [(0, 1, 2)], [(1, "most", 6)], [(0, E, 1, L)]])


class IsStepTest(unittest.TestCase):
    book = Book(2, 3, [(0, 0, 5), (1, 1, 3), (1, 0, 2)], [(0, 1, 1), (1, 0, -3)],
                [(1, "most", 5), (0, "least", 4), (1, "least", 7)],
                [(0, E, 1, L), (2, E, 2, E), (2, E, 2, L), (1, L, 0, E)])

    def check_things(self, things, holds):
        for thing in things:
            self.assertIs(is_step(self.book, thing), holds, thing)

    def test_by_clauses(self):
        self.check_things([((0, L), ("clause", 0), (1, L)), ((1, E), ("clause", 0), (0, E)),
                           ((1, E), ("clause", 3), (0, E)), ((2, L), ("clause", 1), (2, E)),
                           ((2, L), ("clause", 2), (2, L)), ((2, E), ("clause", 2), (2, E))], True)
        self.check_things([((1, L), ("clause", 0), (0, L)), ((0, E), ("clause", 0), (1, L)),
                           ((0, L), ("clause", 0), (1, E)), ((0, L), ("clause", 0), (0, E)),
                           ((2, L), ("clause", 2), (2, E)), ((2, E), ("clause", 2), (2, L)),
                           ((2, E), ("clause", 1), (2, E)), ((2, E), ("clause", 1), (2, L)),
                           ((0, L), ("clause", 1), (1, L)), ((0, L), ("clause", 0), (0, L))], False)

    def test_by_links_of_two_tellings(self):
        why = ("link", (("told", 0), (0,), ("told", 1)))
        self.assertEqual(link(self.book, ("told", 0), ("told", 1)), why[1])
        for one, other in product(all_literals(self.book), repeat=2):
            holds = (one, other) in [((0, E), (1, E)), ((1, L), (0, L))]
            self.check_things([(one, why, other)], holds)

    def test_by_links_of_two_tellings_of_one_witness(self):
        why = ("link", (("told", 2), (0,), ("told", 1)))
        self.check_things([((1, E), why, (1, E))], False)
        book = self.book.with_telling(1, 0, 1)
        why = ("link", (("told", 2), (), ("told", 3)))
        for one, other in product(all_literals(book), repeat=2):
            self.assertIs(is_step(book, (one, why, other)), (one, other) in [((1, E), (1, E)), ((1, L), (1, L))])

    def test_by_links_with_a_bound(self):
        for why, pair in ((("link", (("told", 0), (0,), ("sure", 0))), ((0, E), (0, L))),
                          (("link", (("sure", 1), (0,), ("told", 1))), ((1, L), (1, E))),
                          (("link", (("sure", 2), (1,), ("told", 2))), ((1, L), (1, E)))):
            for one, other in product(all_literals(self.book), repeat=2):
                self.check_things([(one, why, other)], (one, other) == pair)

    def test_by_links_of_two_bounds(self):
        why = ("link", (("sure", 2), (), ("sure", 0)))
        self.check_things([(one, why, other) for one, other in product(all_literals(self.book), repeat=2)], False)

    def test_by_what_is_no_link(self):
        self.check_things([((0, E), ("link", (("told", 0), (), ("told", 1))), (1, E)),
                           ((1, E), ("link", (("told", 2), (0,), ("sure", 0))), (1, L)),
                           ((0, E), ("link", (("told", 0), [0], ("told", 1))), (1, E)),
                           ((0, E), ("link", [("told", 0), (0,), ("told", 1)]), (1, E)),
                           ((0, E), ("link", ()), (1, E)), ((0, E), ("link", None), (1, E)),
                           ((0, E), ("link", 0), (1, E)), ((0, L), ("clause", (("told", 0), (0,), ("told", 1))), (1, L)),
                           ((0, E), ("links", (("told", 0), (0,), ("told", 1))), (1, E))], False)

    def test_truths(self):
        self.check_things([((False, L), ("clause", 0), (1, L)), ((0, L), ("clause", False), (1, L)),
                           ((0, L), ("clause", 0), (True, L)), ((1, E), ("clause", 0), (False, E)),
                           ((True, E), ("clause", 0), (0, E)), ((2, L), ("clause", True), (2, E)),
                           ((0, E), ("link", (("told", False), (0,), ("told", 1))), (1, E)),
                           ((0, E), ("link", (("told", 0), (False,), ("told", 1))), (1, E)),
                           ((0, E), ("link", (("told", 0), (0,), ("told", True))), (1, E))], False)

    def test_parts_that_are_none(self):
        for thing in NO_INTEGERS + [-1, -3, -4, 4, 5, 10 ** 30]:
            self.check_things([((thing, L), ("clause", 0), (1, L)), ((0, L), ("clause", thing), (1, L)),
                               ((0, L), ("clause", 0), (thing, L)), (thing, ("clause", 0), (1, L)),
                               ((0, L), thing, (1, L)), ((0, L), ("clause", 0), thing), ((0, L), ("link", thing), (1, L)),
                               ((0, L), ("clause", 0), (1, L), thing), ((0, L), ("clause", 0, thing), (1, L)),
                               ((0, L, thing), ("clause", 0), (1, L)), ((0, L), ("clause", 0), (1, L, thing)),
                               ((0, L), (thing, 0), (1, L)), (thing, thing, thing), [thing, thing, thing]], False)
        for thing in NO_KINDS:
            self.check_things([((0, thing), ("clause", 0), (1, L)), ((0, L), ("clause", 0), (1, thing))], False)

    def test_other_values(self):
        made = [self.book, reason(self.book), link(self.book, ("told", 0), ("told", 1)), NoFit(0)]
        self.check_things(NEITHER + made + [SameAsAll(), 0, "clause", (), ((), (), ()), (None, None, None), [[], [], []],
                                            [(0, L), ("clause", 0), (1, L)]], False)

    def test_what_was_told_with_a_part_altered(self):
        right = {repr(some) for some in all_steps(self.book, 5)}
        told = [step(self.book, one, other) for one, other in product(all_literals(self.book), repeat=2)]
        told = [some for some in told if some is not None]
        self.assertGreater(len(told), 6)
        for some in told:
            self.check_things([some], True)
            for thing in altered(some):
                self.assertIs(is_step(self.book, thing), repr(thing) in right, thing)

    def test_books_as_they_come(self):
        many = 0
        for book in mixed_books("is step", 60, events=(0, 2), witnesses=(0, 2), items=(0, 3), numbers=(-2, 2)):
            right = all_steps(book, 3)
            whys = {why for _, why, _ in right}
            for one, other in product(all_literals(book), repeat=2):
                for why in whys:
                    self.assertIs(is_step(book, (one, why, other)), (one, why, other) in right)
                    many += (one, why, other) in right
        self.assertGreater(many, 100)

    def test_empty_books(self):
        for book in (Book(0, 0), Book(0, 8), Book(8, 0)):
            for thing in (((0, E), ("clause", 0), (0, E)), ((0, E), ("clause", -1), (0, E)), (), None):
                self.assertIs(is_step(book, thing), False)


class ExamplesTest(unittest.TestCase):
    def test_examples_of_the_document(self):
        book = Book(2, 2, [(0, 0, 5), (1, 0, 3), (1, 1, 9)], [(0, 1, 2)], [(1, "most", 6)])
        self.assertEqual([implied(book, (0, E)), closure(book, (1, E)), implied(book, (0, L))],
                         [[(0, L), (1, E)], [(0, L), (1, E), (1, L)], []])
        self.assertEqual(step(book, (1, L), (0, L)), ((1, L), ("link", (("told", 0), (), ("told", 1))), (0, L)))


if __name__ == "__main__":
    unittest.main()
