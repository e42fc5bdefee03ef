"""[81] pieces, holes and shift_stretches, with [2], [3], [4], [5], [7], [11] and [12]."""

import unittest
from itertools import product

from earlyorlate.aside import witnesses_of
from earlyorlate.books import Book
from earlyorlate.clocks import shifted
from earlyorlate.shifts import are_holes, are_pieces, holes, is_clock_paper, pieces, shift_stretches
from tests.checks import bare_books, check_passed_stays, check_quick, check_unchanged, unfit_books
from tests.oracle import mixed_books, planted_books, rows_of
from tests.shifting import are_in_order, are_right_pieces, are_true_holes, contains, fits_at, shifts_beside, some_of

E, L = "early", "late"
GREAT = 10 ** 12
FAR = 10 ** 30
DAYS = [(0, "least", 0), (0, "most", 0), (1, "least", 10), (1, "most", 10)]


def shift_books(seed, many):
    """Books in which shifts matter."""
    half = many // 2
    return (mixed_books(seed, half, events=(1, 3), witnesses=(1, 3), items=(0, 5), numbers=(-4, 4), gaps=(-5, 1))
            + mixed_books(seed + " more", many - half, events=(1, 2), witnesses=(2, 4), items=(2, 5), numbers=(-4, 4),
                          gaps=(-9, -4), clauses=(0, 3)))


def place_in(rows, shift):
    """How many of these rows hold a shift."""
    return len([row for row in rows if contains(row[:2], shift)])


class ShiftsTest(unittest.TestCase):
    def check_stretches(self, book, others, found, shifts):
        self.assertIs(found.__class__, list)
        self.assertTrue(are_in_order([some + (None,) for some in found]), found)
        for (_, high), (low, _) in zip(found, found[1:]):
            self.assertLess(high + 1, low)
        for shift in shifts:
            self.assertEqual(place_in(found, shift), int(fits_at(book, others, shift)), shift)

    def check_paper(self, book, others, reach=25, right=True):
        """Check all of a book, each shift within reach and others about the ends; return what was told."""
        some_pieces, some_holes, found = pieces(book, others), holes(book, others), shift_stretches(book, others)
        shifts = shifts_beside([end for row in some_pieces + some_holes for end in row[:2]])
        self.check_stretches(book, others, found, list(range(-reach, reach + 1)) + shifts)
        self.assertTrue(are_in_order(some_pieces) and are_in_order(some_holes), (some_pieces, some_holes))
        for shift in list(range(-reach, reach + 1)) + shifts:
            self.assertEqual([place_in(some_pieces, shift), place_in(some_holes, shift)],
                             [1, 0] if place_in(found, shift) else [0, 1], shift)
        if right:
            self.assertTrue(are_right_pieces(book, others, some_pieces), some_pieces)
            self.assertTrue(are_true_holes(book, others, some_holes), some_holes)
        self.assertIs(are_pieces(book, others, some_pieces), True)
        self.assertIs(are_holes(book, others, some_holes), True)
        self.assertIs(is_clock_paper(book, others, some_pieces, some_holes), True)
        return some_pieces, some_holes, found


class FewTest(ShiftsTest):
    def check_found(self, book, others, found):
        """Check a book and its contrary in time, for both of which these stretches fit."""
        self.assertEqual(self.check_paper(book, others)[2], found)
        turned = [tuple(end if end is None else -end for end in some[::-1]) for some in found[::-1]]
        self.assertEqual(self.check_paper(book.turned(), others)[2], turned)

    def test_nothing_told(self):
        for events, witnesses in product((0, 2), (0, 2)):
            for others in ([], list(range(witnesses)), tuple(range(witnesses))):
                some = self.check_paper(Book(events, witnesses), others)
                self.assertEqual(some[1:], ([], [(None, None)]))
        self.assertEqual(shift_stretches(Book(8, 8), list(range(8))), [(None, None)])

    def test_nobody_else_and_all(self):
        book = Book(1, 2, [(0, 0, 5), (1, 0, 3)], [], [], [(0, E, 0, E), (1, L, 1, L)])
        for others in ([], (), [0, 1], (0, 1)):
            self.check_found(book, others, [])
            self.check_found(book.without("clauses", 0), others, [(None, None)])
        self.check_found(book, [0], [(2, None)])
        self.check_found(book, (1,), [(None, -2)])

    def test_one_shift_and_one_hole(self):
        clauses = [(0, E, 0, E), (1, L, 1, L)]
        self.check_found(Book(2, 2, [(0, 0, 4), (1, 1, 14)], [], DAYS, clauses), [0, 1], [(4, 4)])
        self.check_found(Book(2, 2, [(0, 0, 4), (1, 1, 13)], [], DAYS, clauses), [0, 1], [])
        far = Book(2, 1, [(0, 0, 0), (0, 1, 12)], [], DAYS)
        self.check_found(far, [0], [(None, 0), (2, None)])
        self.check_found(Book(2, 1, [(0, 0, 0), (0, 1, 11)], [], DAYS), [0], [(None, None)])

    def test_several_stretches(self):
        told = [(0, 0, 0), (0, 0, 5), (1, 0, 10), (1, 0, 15), (2, 0, -10), (2, 0, -8)]
        book = Book(1, 3, told, [], [(0, "least", 0), (0, "most", 0)])
        self.check_found(book, [0, 1, 2], [(None, -10), (-8, 0), (5, 10), (15, None)])
        self.check_found(book, [0, 1], [(None, 0), (5, 10), (15, None)])
        self.check_found(book.with_telling(2, 0, 1), [0, 1], [])

    def test_one_stretch_of_unlike_kinds(self):
        near = Book(2, 1, [(0, 0, 0), (0, 1, 9)], [], DAYS)
        some_pieces = self.check_paper(near, [0])[0]
        self.assertEqual(len(some_pieces), 2)
        self.check_found(near, [0], [(None, None)])

    def test_one_stretch_of_several_reasons(self):
        # All are late, or all early, each with a telling that lasts longer.
        told = [(w, 0, 10 * w) for w in range(4)] + [(w, 1, 40 + 10 * w) for w in range(4)]
        book = Book(2, 4, told, [], [(0, "least", 0), (0, "most", 0), (1, "least", 0), (1, "most", 0)])
        self.check_found(book, [0, 1, 2, 3], [(None, 0), (70, None)])

    def test_a_reason_that_names_nobody(self):
        for book in bare_books():
            for others in ([], [0], (0, 1)):
                some_pieces, some_holes, found = self.check_paper(book, others)
                self.assertEqual([some_pieces, len(some_holes), found], [[], 1, []])
                self.assertEqual(some_holes[0][:2], (None, None))
                self.assertEqual(witnesses_of(book, some_holes[0][2]), [])

    def test_clauses_alone(self):
        book = Book(1, 2, [(0, 0, 5), (1, 0, 3)], [], [], [(0, E, 0, E), (0, L, 0, L)])
        self.check_found(book, [0], [])
        self.assertEqual(self.check_paper(book, [0])[1][0][:2], (None, None))

    def test_no_end_at_either_side(self):
        book = Book(1, 2, [(0, 0, 5), (1, 0, 3)], [], [(0, "least", 0)])
        self.check_found(book, [0], [(None, None)])
        self.check_found(book.with_known(0, L), [0], [(None, 5)])
        self.check_found(book.with_known(1, L), [0], [(None, None)])
        self.check_found(book.with_known(0, E).with_known(1, L), [0], [(2, None)])

    def test_great_numbers(self):
        book = Book(8, 2, [(0, 0, GREAT), (1, 7, -GREAT)], [(a, a + 1, GREAT) for a in range(7)], [],
                    [(0, E, 0, E), (1, L, 1, L)])
        self.assertEqual(self.check_paper(book, [0])[2], [(9 * GREAT, None)])
        self.assertEqual(self.check_paper(book, [1])[2], [(None, -9 * GREAT)])
        self.assertEqual(self.check_paper(book, [0, 1])[2], [])


class BooksTest(ShiftsTest):
    def test_books_as_they_come(self):
        found = {"stretches": 0, "pieces": 0, "holes": 0, "none": 0, "all": 0}
        for at, book in enumerate(shift_books("shifts", 200)):
            some_pieces, some_holes, stretches = self.check_paper(book, some_of(book, at))
            found["stretches"] += len(stretches) > 1
            found["pieces"] += len(some_pieces) > len(stretches)
            found["holes"] += len(some_holes) > len(stretches) + 1
            found["none"] += not some_pieces
            found["all"] += not some_holes
        self.assertTrue(all(many > 1 for many in found.values()), found)

    def test_many_holes(self):
        found = 0
        for at, book in enumerate(mixed_books("many holes", 40, events=(2, 2), witnesses=(5, 5), items=(8, 14),
                                              numbers=(-40, 40), clauses=(2, 6))):
            book = Book(2, book.witnesses, book.tellings, [], DAYS, book.clauses)
            some = self.check_paper(book, some_of(book, at), reach=100)
            found += len(some[1]) > 2
        self.assertGreater(found, 3)

    def test_shift_0_and_shifted(self):
        for at, book in enumerate(shift_books("shift 0", 60)):
            others = some_of(book, at)
            found = shift_stretches(book, others)
            self.assertEqual(place_in(found, 0), int(bool(rows_of(book))))
            by_two = [tuple(end if end is None else end - 2 for end in some) for some in found]
            self.assertEqual(shift_stretches(shifted(book, others, 2), others), by_two)
            self.assertEqual(shift_stretches(book.moved(9), others), found)

    def test_the_first_clock_in_the_place_of_the_other_one(self):
        # Where no bounds are told, which clock is ahead of which is a matter of words.
        for at, book in enumerate(shift_books("other clock", 60)):
            book = Book(book.events, book.witnesses, book.tellings, book.gaps, [], book.clauses)
            others = some_of(book, at)
            rest = [w for w in range(book.witnesses) if w not in others]
            found = shift_stretches(book, others)
            turned = [tuple(end if end is None else -end for end in some[::-1]) for some in found[::-1]]
            self.assertEqual(shift_stretches(book, rest), turned)

    def test_no_fit_raises_nothing(self):
        for book in unfit_books():
            for others in ([], [0], (1,), [0, 1]):
                self.check_paper(book, others)

    def test_great_books_in_good_time(self):
        books = planted_books("shifts", 3) + planted_books("shifts too", 3, slack=300)
        books += mixed_books("quick", 3, events=(8, 8), witnesses=(8, 8), items=(20, 20), numbers=(-300, 300),
                             gaps=(-900, -300))
        for book in books:
            for others in ([0, 2, 4, 6], list(range(8)), (7,), [0, 1, 2, 3, 4]):
                some_pieces = check_quick(self, 2, pieces, book, others)
                some_holes = check_quick(self, 2, holes, book, others)
                found = check_quick(self, 2, shift_stretches, book, others)
                self.assertIs(check_quick(self, 2, is_clock_paper, book, others, some_pieces, some_holes), True)
                ends = [end for row in some_pieces + some_holes for end in row[:2]]
                for shift in shifts_beside(ends)[::7]:
                    self.assertEqual(place_in(found, shift), int(fits_at(book, others, shift)))

    def test_what_is_passed_stays(self):
        book = Book(2, 2, [(0, 0, 0), (0, 1, 12), (1, 0, 5), (1, 1, 9)], [], DAYS)
        check_unchanged(self, book, lambda some: pieces(some, [0]), lambda some: holes(some, [0]),
                        lambda some: shift_stretches(some, [0]))
        for call in (pieces, holes, shift_stretches):
            check_passed_stays(self, call, book, [0, 1])
            self.assertEqual(call(book, [0]), call(book, (0,)))
        check_passed_stays(self, is_clock_paper, book, [0], pieces(book, [0]), holes(book, [0]))


class ExamplesTest(unittest.TestCase):
    def test_examples_of_the_document(self):
        far = Book(2, 1, [(0, 0, 0), (0, 1, 20)], [], DAYS)
        near = Book(2, 1, [(0, 0, 0), (0, 1, 9)], [], DAYS)
        self.assertEqual([shift_stretches(far, [0]), shift_stretches(near, [0])], [[(None, 0), (10, None)], [(None, None)]])
        self.assertEqual([are_pieces(near, [0], [(None, -1, ("late",)), (0, None, ("early",))]),
                          is_clock_paper(far, [0], pieces(far, [0]), holes(far, [0]))],
                         [True, True])


if __name__ == "__main__":
    unittest.main()
