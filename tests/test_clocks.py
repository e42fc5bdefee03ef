"""[80] clocks, with [2], [3], [4], [7], [11] and [12]."""

import unittest
from itertools import product

from earlyorlate.books import Book
from earlyorlate.clocks import shift_stretch, shifted
from earlyorlate.fits import fits
from tests.checks import check_passed_stays, check_quick, unfit_books
from tests.helper import FAR, KINDS
from tests.oracle import CONTRARY, all_kinds, mixed_books, planted_books
from tests.shifting import at_shift, contains, fit_at, shifts_beside, some_of

E, L = "early", "late"
GREAT = 10 ** 12
GREATER = 10 ** 13


def parts_of(book):
    return [book.events, book.witnesses, book.tellings, book.gaps, book.sure, book.clauses]


def full_book():
    """A Book of the greatest sizes with 24 items in each part."""
    return Book(8, 8, [(at % 8, at // 3, at) for at in range(24)], [(at % 8, (at + 1) % 8, -at) for at in range(24)],
                [(at % 8, "least", at) for at in range(24)], [(at % 8, E, at // 3, L) for at in range(24)])


class ShiftedTest(unittest.TestCase):
    def check_shifted(self, book, others, shift):
        found = shifted(book, others, shift)
        self.assertIs(found.__class__, Book)
        self.assertEqual(parts_of(found), parts_of(at_shift(book, others, shift)))
        return found

    def test_the_tellings_of_others_alone(self):
        book = Book(2, 3, [(0, 0, 5), (1, 0, 3), (2, 1, 9), (0, 1, 7), (1, 1, 3)], [(0, 1, 2)], [(0, "least", 4)],
                    [(0, E, 1, L)])
        self.assertEqual(shifted(book, [0, 2], 10).tellings, ((0, 0, -5), (1, 0, 3), (2, 1, -1), (0, 1, -3), (1, 1, 3)))
        self.assertEqual(shifted(book, (1,), -4).tellings, ((0, 0, 5), (1, 0, 7), (2, 1, 9), (0, 1, 7), (1, 1, 7)))
        for others, shift in product(([], (), [0], (0,), [1, 2], [0, 1, 2], (0, 1, 2)), (-9, 0, 1, GREATER, -GREATER)):
            self.check_shifted(book, others, shift)

    def test_all_witnesses_and_nobody(self):
        book = full_book()
        self.assertEqual(shifted(book, [], 7), book)
        self.assertEqual(shifted(book, range(8), 7).tellings, book.moved(7 - 14).tellings)
        self.check_shifted(book, list(range(8)), 12)

    def test_shifts_one_after_another_add_up(self):
        for at, book in enumerate(mixed_books("add up", 40, witnesses=(0, 5), items=(0, 6)) + [full_book()]):
            others = some_of(book, at)
            for one, other in ((3, 4), (-3, 5), (7, -7), (GREATER, -GREATER)):
                self.assertEqual(shifted(shifted(book, others, one), others, other), shifted(book, others, one + other))
            self.assertEqual(self.check_shifted(book, others, 0), book)

    def test_books_of_any_size(self):
        for book in (Book(0, 0), Book(8, 0), Book(0, 8), full_book()):
            self.assertEqual(self.check_shifted(book, [], 5), book)
            self.check_shifted(book, list(range(book.witnesses)), 5)

    def test_greatest_numbers(self):
        book = Book(1, 2, [(0, 0, FAR), (1, 0, -FAR)])
        self.assertEqual(self.check_shifted(book, [0], 2 * FAR).tellings, ((0, 0, -FAR), (1, 0, -FAR)))
        self.assertEqual(self.check_shifted(book, [1], -2 * FAR).tellings, ((0, 0, FAR), (1, 0, FAR)))

    def test_the_book_stays(self):
        check_passed_stays(self, shifted, full_book(), [1, 2], 5)
        others = [0]
        found = shifted(Book(1, 1, [(0, 0, 5)]), others, 5)
        others.clear()
        self.assertEqual(found.tellings, ((0, 0, 0),))


class StretchTest(unittest.TestCase):
    def check_stretch(self, book, others, kinds, reach=25):
        """Check shift_stretch by trying the shifts about its ends, and all within reach; return it."""
        found = shift_stretch(book, others, kinds)
        if found is None:
            for shift in list(range(-reach, reach + 1)) + shifts_beside([]):
                self.assertFalse(fit_at(book, others, shift, kinds), shift)
            return None
        self.assertEqual([found.__class__, len(found)], [tuple, 2])
        low, high = found
        self.assertTrue(low is None or high is None or low <= high)
        for shift in list(range(-reach, reach + 1)) + shifts_beside(found):
            self.assertIs(fit_at(book, others, shift, kinds), contains(found, shift), shift)
        return found

    def check_all_kinds(self, book, others, reach=25):
        return [self.check_stretch(book, others, kinds, reach) for kinds in all_kinds(book)]


class FewTest(StretchTest):
    days = [(0, "least", 0), (0, "most", 0), (1, "least", 10), (1, "most", 10)]

    def test_nothing_told(self):
        for events, witnesses in product((0, 3), (0, 2)):
            book = Book(events, witnesses)
            for others in ([], list(range(witnesses)), tuple(range(witnesses))):
                self.assertEqual(set(self.check_all_kinds(book, others)), {(None, None)})
        self.assertEqual(shift_stretch(Book(8, 8), list(range(8)), (E,) * 8), (None, None))

    def test_one_who_tells(self):
        book = Book(1, 1, [(0, 0, 7)], [], [(0, "least", 3), (0, "most", 5)])
        # An early one tells nothing after the time of the other clock, which is from 3 to 5 plus the shift.
        self.assertEqual(self.check_stretch(book, [0], (E,)), (2, None))
        self.assertEqual(self.check_stretch(book, [0], (L,)), (None, 4))
        self.assertEqual([self.check_stretch(book, [], (E,)), self.check_stretch(book, [], (L,))], [None, (None, None)])

    def test_an_end_that_there_is_not(self):
        book = Book(1, 1, [(0, 0, 7)], [], [(0, "least", 3)])
        self.assertEqual([self.check_stretch(book, [0], (kind,)) for kind in KINDS], [(None, None), (None, 4)])
        self.assertEqual([self.check_stretch(book.turned(), [0], (kind,)) for kind in KINDS], [(-4, None), (None, None)])

    def test_a_witness_beside_another_one(self):
        book = Book(2, 2, [(0, 0, 20), (1, 1, 9)], [(0, 1, 5)])
        self.assertEqual(self.check_all_kinds(book, [0]), [(None, None), (16, None), (None, None), (None, None)])
        self.assertEqual(self.check_all_kinds(book, (1,)), [(None, None), (None, -16), (None, None), (None, None)])
        self.assertEqual(self.check_all_kinds(book, [0, 1]), [(None, None), None, (None, None), (None, None)])
        self.assertEqual(self.check_all_kinds(book, []), [(None, None), None, (None, None), (None, None)])

    def test_bounds_that_shut_it_in(self):
        book = Book(2, 2, [(0, 0, 4), (1, 1, 13)], [], self.days)
        self.assertEqual(self.check_stretch(book, [0, 1], (E, L)), None)
        book = Book(2, 2, [(0, 0, 4), (1, 1, 17)], [], self.days)
        self.assertEqual(self.check_stretch(book, [0, 1], (E, L)), (4, 7))
        book = Book(2, 2, [(0, 0, 4), (1, 1, 14)], [], self.days)
        self.assertEqual(self.check_stretch(book, [0, 1], (E, L)), (4, 4))

    def test_several_tellings(self):
        book = Book(2, 2, [(0, 0, 4), (0, 1, 15), (0, 0, 3), (1, 0, 30), (1, 1, 22), (1, 0, 19)], [], self.days)
        self.assertEqual(self.check_stretch(book, [0, 1], (E, L)), (5, 12))
        self.assertEqual(self.check_stretch(book, [0, 1], (L, E)), None)
        self.assertEqual(self.check_stretch(book, [0], (E, L)), (5, None))

    def test_kinds_that_hurt_a_clause(self):
        book = Book(1, 2, [(0, 0, 4)], [], [], [(0, E, 1, E)])
        self.assertEqual(self.check_all_kinds(book, [0]), [(None, None), (None, None), (None, None), None])
        self.assertEqual(self.check_all_kinds(book.with_known(1, L), [0]), [None, (None, None), None, None])

    def test_rings_and_bounds_that_pass_one_another(self):
        for book in (Book(2, 1, [(0, 0, 4)], [(0, 1, 3), (1, 0, -2)]), Book(1, 1, [], [], [(0, "least", 3), (0, "most", 2)]),
                     Book(2, 1, [], [(0, 1, 3)], [(0, "least", 3), (1, "most", 5)])):
            self.assertEqual(self.check_all_kinds(book, [0]), [None, None])
            self.assertEqual(self.check_all_kinds(book, []), [None, None])
        for book in unfit_books()[:5]:
            self.assertEqual(self.check_all_kinds(book, [0, 1]), [None] * 4)

    def test_no_fit_by_those_of_one_clock(self):
        book = Book(1, 3, [(0, 0, 9), (1, 0, 4), (2, 0, 0)])
        self.assertIsNone(self.check_stretch(book, [2], (E, L, E)))
        self.assertIsNone(self.check_stretch(book, [0, 1], (E, L, L)))
        self.assertIsNone(self.check_stretch(book, [0, 2], (E, L, L)))
        self.assertEqual(self.check_stretch(book, [0, 2], (E, L, E)), (5, None))
        self.assertEqual(self.check_stretch(book, [0], (E, L, L)), (9, None))

    def test_great_numbers(self):
        book = Book(8, 2, [(0, 0, GREAT), (1, 7, -GREAT)], [(a, a + 1, GREAT) for a in range(7)])
        self.assertEqual(self.check_stretch(book, [0], (E, L)), (9 * GREAT, None))
        self.assertEqual(self.check_stretch(book, [1], (E, L)), (None, -9 * GREAT))
        self.assertEqual(self.check_stretch(book.turned(), [0], (L, E)), (None, -9 * GREAT))


class BooksTest(StretchTest):
    def test_books_as_they_come(self):
        found = []
        books = mixed_books("clocks", 120, events=(1, 3), witnesses=(1, 3), items=(0, 5), numbers=(-4, 4), gaps=(-5, 1))
        books += mixed_books("clocks of more", 120, events=(1, 2), witnesses=(2, 3), items=(2, 4), numbers=(-4, 4),
                             gaps=(-9, -5), clauses=(0, 1))
        for at, book in enumerate(books):
            found += self.check_all_kinds(book, some_of(book, at))
        forms = [None if some is None else (some[0] is None, some[1] is None) for some in found]
        for form in (None, (True, True), (True, False), (False, True), (False, False)):
            self.assertGreater(forms.count(form), 10, form)

    def test_shift_0_is_what_fits(self):
        for at, book in enumerate(mixed_books("shift 0", 60, witnesses=(0, 3))):
            for kinds in all_kinds(book):
                found = shift_stretch(book, some_of(book, at), kinds)
                self.assertIs(found is not None and contains(found, 0), fits(book, kinds))

    def test_moved_and_turned(self):
        for at, book in enumerate(mixed_books("moved shift", 60, events=(1, 3), witnesses=(1, 3), items=(1, 4))):
            others = some_of(book, at)
            for kinds in all_kinds(book):
                found = shift_stretch(book, others, kinds)
                by_two = found and tuple(end if end is None else end - 2 for end in found)
                self.assertEqual(shift_stretch(shifted(book, others, 2), others, kinds), by_two)
                self.assertEqual(shift_stretch(book.moved(9), others, kinds), found)
                turned = found and tuple(end if end is None else -end for end in found[::-1])
                self.assertEqual(shift_stretch(book.turned(), others, tuple(CONTRARY[kind] for kind in kinds)), turned)

    def test_great_books_in_good_time(self):
        for book in planted_books("clocks", 3) + planted_books("clocks too", 2, slack=300):
            for others in ([0, 2, 4, 6], list(range(8)), [7], ()):
                for kinds in all_kinds(book)[::37]:
                    found = check_quick(self, 2, shift_stretch, book, others, kinds)
                    for shift in shifts_beside(found or []):
                        self.assertIs(fit_at(book, others, shift, kinds), found is not None and contains(found, shift))

    def test_what_is_passed_stays(self):
        for others in ([0], (0,), [0, 1], ()):
            check_passed_stays(self, shift_stretch, Book(2, 2, [(0, 0, 20), (1, 1, 9)], [(0, 1, 5)]), others, (E, L))


class ExamplesTest(unittest.TestCase):
    def test_examples_of_the_document(self):
        days = [(0, "least", 0), (0, "most", 0), (1, "least", 10), (1, "most", 10)]
        far = Book(2, 1, [(0, 0, 0), (0, 1, 20)], [], days)
        self.assertEqual([shift_stretch(far, [0], ("early",)), shifted(far, [0], 10).tellings],
                         [(10, None), ((0, 0, -10), (0, 1, 10))])
        near = Book(2, 1, [(0, 0, 0), (0, 1, 9)], [], days)
        self.assertEqual([shift_stretch(near, [0], ("late",)), shift_stretch(near, [0], ("early",))],
                         [(None, -1), (0, None)])


if __name__ == "__main__":
    unittest.main()
