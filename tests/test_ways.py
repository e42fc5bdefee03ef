"""[30] ways, with [2] and [4]."""

import unittest

from earlyorlate.books import Book
from earlyorlate.errors import NoFit
from earlyorlate.ways import is_way, ring, way
from tests.helper import FAR, NEITHER, NO_INTEGERS, check_no_fit_by_gaps, ring_books, some_books
from tests.oracle import is_walk, total_of, walks


def best_total(book, start, end, most_gaps):
    """The greatest sum of these ways, without listing them."""
    totals = {start: 0}
    for _ in range(most_gaps):
        longer = dict(totals)
        for a, b, g in book.gaps:
            if a in totals:
                longer[b] = max(longer.get(b, totals[a] + g), totals[a] + g)
        totals = longer
    return totals.get(end)


class IsWayTest(unittest.TestCase):
    book = Book(4, 1, [], [(0, 1, 2), (1, 0, -3), (1, 2, 5), (0, 1, 2), (2, 0, -9)])

    def check_ways(self, a, b, things, holds):
        for thing in things:
            self.assertIs(is_way(self.book, a, b, thing), holds, (a, b, thing))

    def test_the_empty_way(self):
        for a in range(4):
            for b in range(4):
                self.check_ways(a, b, [()], a == b)

    def test_ways(self):
        self.check_ways(0, 1, [(0,), (3,), (0, 1, 3), (0, 1, 0, 1, 0), (0, 2, 4, 3)], True)
        self.check_ways(0, 2, [(0, 2), (3, 2), (0, 1, 3, 2)], True)
        self.check_ways(2, 1, [(4, 0), (4, 3, 2, 4, 0)], True)

    def test_ways_gone_round(self):
        self.check_ways(0, 0, [(0, 1), (3, 1), (0, 1, 3, 1), (0, 2, 4), (0, 1) * 500], True)
        self.check_ways(1, 1, [(1, 0), (2, 4, 3), (1, 0, 2, 4, 0)], True)

    def test_wrong_ends(self):
        self.check_ways(0, 0, [(0,), (0, 2), (0, 1, 0)], False)
        self.check_ways(1, 0, [(0,), (0, 1), (2,), (2, 4, 0)], False)
        self.check_ways(1, 1, [(0,), (0, 1), (2, 4)], False)
        self.check_ways(3, 3, [(0, 1), (0,)], False)
        self.check_ways(0, 3, [(0,), (0, 2), (0, 1)], False)

    def test_gaps_that_do_not_meet(self):
        self.check_ways(0, 1, [(0, 0), (0, 3), (0, 4, 0), (0, 2, 0), (0, 2, 3)], False)
        self.check_ways(0, 2, [(0, 1, 2), (2,), (0, 0, 2)], False)

    def test_a_way_turned_about(self):
        self.check_ways(0, 2, [(2, 0)], False)
        self.check_ways(2, 0, [(0, 2), (2, 0)], False)

    def test_indexes_out_of_range(self):
        self.check_ways(0, 1, [(-5,), (-2,), (5,), (6,), (10 ** 30,), (-10 ** 30,), (0, 1, 5), (0, 1, -5), (0, -4, 0)],
                        False)
        self.check_ways(2, 0, [(4,)], True)
        self.check_ways(2, 0, [(-1,)], False)

    def test_truths_for_indexes(self):
        self.check_ways(0, 1, [(False,), (False, 1, 0), (0, True, 0)], False)
        self.check_ways(1, 0, [(1,)], True)
        self.check_ways(1, 0, [(True,)], False)
        self.check_ways(0, 0, [(False, True), (0, True), (False, 1)], False)

    def test_lists_for_tuples(self):
        self.check_ways(0, 1, [[0], [[0]], [(0,)], ([0],), ((0,),)], False)
        self.check_ways(0, 0, [[], [()], ((),), [0, 1]], False)

    def test_other_values(self):
        for thing in NEITHER + [0, 1, -1, "01", b"\x00", range(1), {0: 0}, (2, (0,)), ("gaps", (0,))]:
            self.check_ways(0, 1, [thing], False)
            self.check_ways(0, 0, [thing], False)
        for thing in NO_INTEGERS:
            self.check_ways(0, 1, [(thing,), (0, thing), (thing, 0), (0, 1, thing)], False)

    def test_what_this_package_returns(self):
        for thing in (way(self.book, 0, 1), way(self.book, 0, 3), self.book, NoFit(("gaps", (0,))), ring(self.book)):
            self.check_ways(0, 1, [thing, (thing,)], False)
        self.check_ways(0, 1, [way(self.book, 0, 1)[1]], True)

    def test_no_gaps(self):
        book = Book(1, 0)
        self.assertIs(is_way(book, 0, 0, ()), True)
        for thing in ((0,), (-1,), (1,), [], None):
            self.assertIs(is_way(book, 0, 0, thing), False)

    def test_as_told_by_its_definition(self):
        for book in some_books("is way", 30, 3, 4):
            for a in range(book.events):
                for b in range(book.events):
                    right = walks(book, a, b, 3)
                    for event in range(book.events):
                        for other in range(book.events):
                            for indexes in walks(book, event, other, 3):
                                self.assertIs(is_way(book, a, b, indexes), indexes in right)


class RingTest(unittest.TestCase):
    def check_ring(self, book, there_is_one):
        around = ring(book)
        if not there_is_one:
            self.assertIsNone(around)
            return
        self.assertIsInstance(around, tuple)
        start = book.gaps[around[0]][0]
        self.assertTrue(is_walk(book, start, start, around))
        self.assertGreater(total_of(book, around), 0)
        self.assertIs(is_way(book, start, start, around), True)

    def test_sums_above_at_and_below_zero(self):
        for there in (-5, 0, 2, FAR - 3):
            for total in (-3, -1, 0, 1, 3):
                book = Book(2, 0, [], [(0, 1, there), (1, 0, total - there)])
                self.check_ring(book, total > 0)
                self.check_ring(book.turned(), total > 0)

    def test_no_ring(self):
        self.check_ring(Book(0, 0), False)
        self.check_ring(Book(8, 8), False)
        self.check_ring(Book(2, 0, [], [(0, 1, FAR), (0, 1, FAR)]), False)
        self.check_ring(Book(3, 0, [], [(0, 1, 5), (1, 2, 5), (0, 2, 20)]), False)

    def test_long_rings(self):
        for events in range(2, 9):
            for missing in (0, 1):
                gaps = [(a, (a + 1) % events, 3) for a in range(events - 1)]
                gaps.append((events - 1, 0, -3 * (events - 1) + 1 - missing))
                self.check_ring(Book(events, 0, [], gaps), missing == 0)
                self.check_ring(Book(events, 0, [], gaps[::-1]), missing == 0)

    def test_one_of_two_equal_gaps(self):
        self.check_ring(Book(2, 0, [], [(0, 1, 1), (0, 1, 4), (1, 0, -3), (1, 0, -5)]), True)
        self.check_ring(Book(2, 0, [], [(0, 1, 1), (0, 1, 3), (1, 0, -3), (1, 0, -5)]), False)

    def test_a_ring_far_from_the_first_event(self):
        self.check_ring(Book(8, 0, [], [(0, 1, -9), (1, 0, -9), (6, 7, -1), (7, 6, 2)]), True)
        self.check_ring(Book(8, 0, [], [(0, 6, -9), (6, 7, -1), (7, 6, 1)]), False)

    def test_great_numbers(self):
        there = [(a, a + 1, FAR) for a in range(7)]
        self.check_ring(Book(8, 0, [], there + [(7, 0, -FAR)]), True)
        self.check_ring(Book(8, 0, [], there), False)
        self.check_ring(Book(2, 0, [], [(0, 1, FAR), (1, 0, -FAR)]), False)
        self.check_ring(Book(2, 0, [], [(0, 1, FAR), (1, 0, 1 - FAR)]), True)
        self.check_ring(Book(2, 0, [], [(0, 1, -FAR), (1, 0, FAR)]), False)

    def test_books_as_they_come(self):
        rings = 0
        for book in some_books("ring", 400):
            sums = [best_total(book, a, a, book.events) for a in range(book.events)]
            self.check_ring(book, max(sums) > 0)
            rings += max(sums) > 0
        self.assertTrue(50 < rings < 350)


class WayTest(unittest.TestCase):
    def check_way(self, book, a, b, total):
        found = way(book, a, b)
        if total is None:
            self.assertIsNone(found)
            return
        self.assertIsInstance(found, tuple)
        self.assertEqual(len(found), 2)
        self.assertEqual(found[0], total)
        self.assertIsInstance(found[1], tuple)
        self.assertTrue(is_walk(book, a, b, found[1]))
        self.assertEqual(total_of(book, found[1]), total)
        self.assertIs(is_way(book, a, b, found[1]), True)

    def test_from_an_event_to_itself(self):
        for gaps in ([], [(0, 1, 5)], [(0, 1, 5), (1, 0, -5)], [(0, 1, 5), (1, 0, -9)], [(0, 1, -2), (1, 0, 2)]):
            for event in range(3):
                self.check_way(Book(3, 1, [], gaps), event, event, 0)
        self.assertEqual(way(Book(1, 0), 0, 0), (0, ()))
        self.assertEqual(way(Book(2, 0, [], [(0, 1, 5), (1, 0, -6)]), 0, 0), (0, ()))

    def test_where_there_is_none(self):
        book = Book(4, 1, [], [(0, 1, 5), (2, 1, 3), (1, 3, -1)])
        for a, b in ((1, 0), (0, 2), (2, 0), (3, 0), (3, 1), (1, 2), (3, 2)):
            self.check_way(book, a, b, None)
        self.check_way(Book(2, 1), 0, 1, None)
        self.check_way(Book(2, 1), 1, 0, None)

    def test_several_with_unlike_sums(self):
        gaps = [(0, 1, 1), (1, 3, 1), (0, 2, -4), (2, 3, 9), (0, 3, 4), (0, 3, 3), (3, 0, -9)]
        for mixed in (gaps, gaps[::-1], gaps[3:] + gaps[:3]):
            book = Book(4, 1, [], mixed)
            self.check_way(book, 0, 3, 5)
            self.check_way(book, 3, 0, -9)
            self.check_way(book, 1, 2, -12)
            self.check_way(book, 2, 1, 1)

    def test_a_longer_way_may_be_better(self):
        gaps = [(0, 7, 20)] + [(a, a + 1, 3) for a in range(7)]
        self.check_way(Book(8, 0, [], gaps), 0, 7, 21)
        self.check_way(Book(8, 0, [], gaps[::-1]), 0, 7, 21)
        self.check_way(Book(8, 0, [], [(0, 7, 21)] + gaps), 0, 7, 21)
        self.check_way(Book(8, 0, [], [(0, 7, 22)] + gaps), 0, 7, 22)

    def test_sums_below_zero(self):
        book = Book(3, 0, [], [(0, 1, -5), (0, 1, -7), (1, 2, -1), (0, 2, -8)])
        self.check_way(book, 0, 1, -5)
        self.check_way(book, 0, 2, -6)

    def test_rings_with_the_sum_zero(self):
        book = Book(3, 0, [], [(0, 1, 4), (1, 0, -4), (1, 2, 7), (2, 1, -7)])
        self.check_way(book, 0, 2, 11)
        self.check_way(book, 2, 0, -11)
        self.check_way(book, 1, 1, 0)

    def test_great_numbers(self):
        book = Book(8, 0, [], [(a, a + 1, FAR) for a in range(7)])
        self.check_way(book, 0, 7, 7 * FAR)
        self.check_way(book, 7, 0, None)
        turned = Book(8, 0, [], [(a, a + 1, -FAR) for a in range(7)])
        self.check_way(turned, 0, 7, -7 * FAR)
        self.check_way(turned.with_gap(0, 7, 1 - FAR), 0, 7, 1 - FAR)

    def test_no_fit_whatever_the_two_events(self):
        gaps = [(0, 1, 3), (1, 0, -2), (2, 3, -1)]
        for book in [Book(5, 1, [], gaps), Book(5, 1, [], gaps[::-1])] + ring_books():
            for a in range(book.events):
                for b in range(book.events):
                    check_no_fit_by_gaps(self, book, way, a, b)

    def test_books_as_they_come(self):
        for book in some_books("way", 400):
            for a in range(book.events):
                for b in range(book.events):
                    if ring(book) is not None:
                        check_no_fit_by_gaps(self, book, way, a, b)
                    else:
                        self.check_way(book, a, b, best_total(book, a, b, 3 * book.events))

    def test_the_book_stays(self):
        book = Book(2, 1, [(0, 0, 1)], [(0, 1, 3)])
        way(book, 0, 1)
        ring(book)
        is_way(book, 0, 1, (0,))
        self.assertEqual(book, Book(2, 1, [(0, 0, 1)], [(0, 1, 3)]))
        self.assertEqual(way(book, 0, 1), way(book, 0, 1))


class ExamplesTest(unittest.TestCase):
    def test_examples_of_the_document(self):
        book = Book(2, 2, [(0, 0, 5), (1, 0, 3), (1, 1, 9)], [(0, 1, 2)], [(1, "most", 6)])
        self.assertEqual([way(book, 0, 1), way(book, 1, 0), ring(book.with_gap(1, 0, -1)) is None],
                         [(2, (0,)), None, False])


if __name__ == "__main__":
    unittest.main()
