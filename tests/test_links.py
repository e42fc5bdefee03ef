"""[31] links, with [2], [3] and [4]."""

import unittest

from earlyorlate.books import Book
from earlyorlate.errors import NoFit
from earlyorlate.links import bounds_link, event_of, is_link, link, number_of
from earlyorlate.reasons import reason
from earlyorlate.steps import step
from earlyorlate.ways import ring, way
from tests.helper import FAR, NEITHER, NO_INTEGERS, SameAsAll, check_no_fit_by_gaps, ring_books
from tests.oracle import all_links, altered, ceilings, floors, is_true_link, mixed_books


def said(e, side, x):
    """A telling or a bound of event e, as the two lists of the tellings and the bounds."""
    if side == "told":
        return [(0, e, x)], []
    return [], [(e, side, x)]


def two_sources(start_side, low, gaps, end_side, high):
    """A Book with a floor of event 0 and a ceiling of event 1, and these two."""
    tellings, sure = said(0, start_side, low)
    start = ("told", 0) if tellings else ("sure", 0)
    more_tellings, more_sure = said(1, end_side, high)
    end = ("told", len(tellings)) if more_tellings else ("sure", len(sure))
    return Book(3, 1, tellings + more_tellings, gaps, sure + more_sure), start, end


class SourcesTest(unittest.TestCase):
    book = Book(4, 3, [(2, 1, 7), (0, 3, -FAR), (0, 3, -FAR)], [(0, 1, 99)], [(2, "most", FAR), (3, "least", 0)])

    def test_events(self):
        self.assertEqual([event_of(self.book, ("told", at)) for at in range(3)], [1, 3, 3])
        self.assertEqual([event_of(self.book, ("sure", at)) for at in range(2)], [2, 3])

    def test_numbers(self):
        self.assertEqual([number_of(self.book, ("told", at)) for at in range(3)], [7, -FAR, -FAR])
        self.assertEqual([number_of(self.book, ("sure", at)) for at in range(2)], [FAR, 0])

    def test_the_last_ones_of_full_parts(self):
        book = Book(8, 8, [(at % 8, 7 - at % 8, at) for at in range(24)], [],
                    [(at % 8, "least", -at) for at in range(24)])
        self.assertEqual([event_of(book, ("told", 23)), number_of(book, ("told", 23))], [0, 23])
        self.assertEqual([event_of(book, ("sure", 23)), number_of(book, ("sure", 23))], [7, -23])

    def test_books_with_a_ring(self):
        for book in ring_books():
            self.assertEqual([event_of(book, ("told", 1)), number_of(book, ("told", 1))], [1, 3])
            self.assertEqual([event_of(book, ("sure", 0)), number_of(book, ("sure", 0))], [0, 7])


class LinkTest(unittest.TestCase):
    def check_link(self, book, start, end, there_is_one):
        found = link(book, start, end)
        if not there_is_one:
            self.assertIsNone(found)
            return
        self.assertIsInstance(found, tuple)
        self.assertEqual((found[0], found[2]), (start, end))
        self.assertTrue(is_true_link(book, found))
        self.assertIs(is_link(book, found), True)

    def test_sums_just_great_enough_and_just_not(self):
        for start_side in ("told", "least"):
            for end_side in ("told", "most"):
                for low in (-3, 0, 5, FAR):
                    for g in (-4, 0, 6, -FAR):
                        for more in (-5, -1, 0, 1, 5):
                            high = max(-FAR, min(FAR, low + g - more))
                            book, start, end = two_sources(start_side, low, [(0, 1, g)], end_side, high)
                            self.check_link(book, start, end, low + g > high)

    def test_the_best_way_counts(self):
        gaps = [(0, 1, 1), (0, 2, 4), (2, 1, 5), (0, 1, 2)]
        for mixed in (gaps, gaps[::-1], gaps[2:] + gaps[:2]):
            book, start, end = two_sources("told", 10, mixed, "most", 18)
            self.check_link(book, start, end, True)
            book, start, end = two_sources("told", 10, mixed, "most", 19)
            self.check_link(book, start, end, False)

    def test_no_way(self):
        for gaps in ([], [(1, 0, 50)], [(0, 2, 50), (1, 2, 50)]):
            book, start, end = two_sources("told", 100, gaps, "told", 0)
            self.check_link(book, start, end, False)

    def test_a_telling_beside_itself(self):
        book = Book(2, 1, [(0, 0, 5)], [(0, 1, 3), (1, 0, -3)])
        self.check_link(book, ("told", 0), ("told", 0), False)

    def test_one_event(self):
        book = Book(1, 2, [(0, 0, 5), (0, 0, 4), (1, 0, 4)], [], [(0, "least", 5), (0, "most", 5), (0, "most", 4)])
        for start, end, holds in ((("told", 0), ("told", 1), True), (("told", 1), ("told", 0), False),
                                  (("told", 0), ("told", 2), True), (("told", 1), ("told", 2), False),
                                  (("sure", 0), ("sure", 1), False), (("sure", 0), ("sure", 2), True),
                                  (("told", 0), ("sure", 1), False), (("told", 0), ("sure", 2), True),
                                  (("sure", 0), ("told", 0), False), (("sure", 0), ("told", 1), True)):
            self.check_link(book, start, end, holds)

    def test_great_numbers(self):
        gaps = [(a, a + 1, FAR) for a in range(7)]
        book = Book(8, 1, [(0, 0, -FAR), (0, 7, FAR)], gaps, [(7, "most", FAR)])
        self.check_link(book, ("told", 0), ("told", 1), True)
        self.check_link(book, ("told", 0), ("sure", 0), True)
        self.check_link(book, ("told", 1), ("told", 0), False)
        book = Book(3, 1, [(0, 0, -FAR), (0, 2, FAR)], gaps[:2])
        self.check_link(book, ("told", 0), ("told", 1), False)
        self.check_link(book.with_gap(0, 2, 1).with_telling(0, 0, FAR), ("told", 2), ("told", 1), True)

    def test_a_ring(self):
        for book in ring_books():
            for start in floors(book):
                for end in ceilings(book):
                    check_no_fit_by_gaps(self, book, link, start, end)

    def test_no_ring_but_another_reason(self):
        book = Book(2, 1, [(0, 0, 5)], [(0, 1, 2), (1, 0, -2)], [(0, "least", 5), (1, "most", 6)],
                    [(0, "early", 0, "early"), (0, "late", 0, "late")])
        self.check_link(book, ("told", 0), ("sure", 1), True)
        self.check_link(book, ("sure", 0), ("sure", 1), True)
        self.check_link(book, ("sure", 0), ("told", 0), False)

    def test_books_as_they_come(self):
        found = 0
        for book in mixed_books("link", 150, items=(0, 5), numbers=(-3, 3), gaps=(-4, 1)):
            right = {(start, end) for start, _, end in all_links(book, book.events)}
            for start in floors(book):
                for end in ceilings(book):
                    if ring(book) is not None:
                        check_no_fit_by_gaps(self, book, link, start, end)
                    else:
                        self.check_link(book, start, end, (start, end) in right)
                        found += 1
        self.assertGreater(found, 500)

    def test_the_book_stays_and_the_result_too(self):
        book = Book(2, 1, [(0, 0, 5)], [(0, 1, 3)], [(1, "most", 6)])
        found = link(book, ("told", 0), ("sure", 0))
        is_link(book, found)
        bounds_link(book)
        self.assertEqual(found, (("told", 0), (0,), ("sure", 0)))
        self.assertEqual(link(book, ("told", 0), ("sure", 0)), found)
        self.assertEqual(book, Book(2, 1, [(0, 0, 5)], [(0, 1, 3)], [(1, "most", 6)]))


class BoundsLinkTest(unittest.TestCase):
    def check_bounds_link(self, book, there_is_one):
        found = bounds_link(book)
        if not there_is_one:
            self.assertIsNone(found)
            return
        self.assertTrue(is_true_link(book, found))
        self.assertEqual([found[0][0], found[2][0]], ["sure", "sure"])
        self.assertIs(is_link(book, found), True)

    def test_sums_just_great_enough_and_just_not(self):
        for low, g, high, holds in ((5, 2, 6, True), (5, 2, 7, False), (5, 2, 8, False), (5, -3, 1, True),
                                    (5, -3, 2, False), (-FAR, FAR, -1, True), (-FAR, FAR, 0, False)):
            sure = [(0, "least", low), (1, "most", high)]
            self.check_bounds_link(Book(2, 0, [], [(0, 1, g)], sure), holds)
            self.check_bounds_link(Book(2, 0, [], [(0, 1, g)], sure[::-1]), holds)
            self.check_bounds_link(Book(2, 0, [], [(1, 0, g)], sure), False)

    def test_only_bounds_count(self):
        book = Book(2, 1, [(0, 0, 9), (0, 0, 1)], [(0, 1, 2)], [(1, "most", 6), (0, "least", 3)])
        self.check_bounds_link(book, False)
        self.check_bounds_link(book.with_sure(0, "least", 4), False)
        self.check_bounds_link(book.with_sure(0, "least", 5), True)

    def test_no_bounds_of_both_sides(self):
        self.check_bounds_link(Book(0, 0), False)
        self.check_bounds_link(Book(8, 8), False)
        self.check_bounds_link(Book(1, 0, [], [], [(0, "least", 9), (0, "least", 3)]), False)
        self.check_bounds_link(Book(1, 0, [], [], [(0, "most", 3), (0, "most", 9)]), False)

    def test_the_last_of_many_bounds(self):
        sure = [(at % 8, "least", 0) for at in range(12)] + [(at % 8, "most", 0) for at in range(11)]
        self.check_bounds_link(Book(8, 0, [], [], sure + [(1, "most", 0)]), False)
        self.check_bounds_link(Book(8, 0, [], [], sure + [(1, "most", -1)]), True)
        self.check_bounds_link(Book(8, 0, [], [], sure + [(1, "least", 1)]), True)

    def test_equal_bounds(self):
        sure = [(0, "least", 5), (0, "least", 5), (0, "most", 4), (0, "most", 4)]
        self.check_bounds_link(Book(1, 0, [], [], sure), True)

    def test_a_ring(self):
        for book in ring_books():
            check_no_fit_by_gaps(self, book, bounds_link)

    def test_books_as_they_come(self):
        for book in mixed_books("bounds", 300, witnesses=(0, 1), items=(0, 6), numbers=(-2, 2), gaps=(-4, 1)):
            if ring(book) is not None:
                check_no_fit_by_gaps(self, book, bounds_link)
            else:
                links = all_links(book, book.events)
                self.check_bounds_link(book, any([start[0], end[0]] == ["sure", "sure"] for start, _, end in links))


class IsLinkTest(unittest.TestCase):
    book = Book(3, 2, [(0, 0, 5), (1, 1, 3), (0, 2, 4)], [(0, 1, 2), (1, 2, -1), (1, 0, -4), (0, 1, 2)],
                [(1, "most", 6), (0, "least", 4), (2, "most", 4), (1, "least", 6)])

    def check_things(self, things, holds):
        for thing in things:
            self.assertIs(is_link(self.book, thing), holds, thing)

    def test_links(self):
        self.check_things([(("told", 0), (0,), ("sure", 0)), (("told", 0), (3,), ("told", 1)),
                           (("sure", 1), (0, 1), ("sure", 2)), (("sure", 3), (1,), ("sure", 2)),
                           (("sure", 3), (), ("told", 1)), (("told", 0), (0, 1), ("told", 2))], True)

    def test_a_sum_that_is_just_not_great_enough(self):
        self.check_things([(("sure", 1), (0,), ("sure", 0)), (("sure", 3), (), ("sure", 0)),
                           (("told", 0), (), ("told", 0)), (("sure", 1), (0, 2), ("told", 0))], False)

    def test_the_way_need_not_be_the_best(self):
        self.check_things([(("told", 0), (0, 2, 3), ("told", 1))], True)
        self.check_things([(("told", 0), (0, 2, 0), ("sure", 0)), (("told", 0), (0, 2, 0, 2, 0), ("told", 1))], False)

    def test_ways_between_other_events(self):
        self.check_things([(("told", 0), (), ("told", 1)), (("told", 0), (1,), ("told", 1)),
                           (("told", 0), (0, 1), ("told", 1)), (("sure", 3), (0,), ("told", 1)),
                           (("sure", 3), (2,), ("told", 1)), (("told", 1), (0,), ("told", 0))], False)

    def test_sides(self):
        self.check_things([(("sure", 1), (0,), ("sure", 3)), (("sure", 0), (), ("told", 1)),
                           (("sure", 0), (1,), ("sure", 2)), (("told", 0), (0,), ("sure", 3))], False)

    def test_truths(self):
        self.check_things([(("told", False), (0,), ("sure", 0)), (("told", 0), (False,), ("sure", 0)),
                           (("told", 0), (0,), ("sure", False)), (("sure", True), (0, 1), ("sure", 2)),
                           (("sure", 1), (0, True), ("sure", 2)), (("sure", 1), (False, 1), ("sure", 2)),
                           (("told", 0), (3,), ("told", True))], False)

    def test_parts_that_are_none(self):
        others = [thing for thing in NO_INTEGERS if thing.__class__ is not tuple]
        for thing in others + [-1, -3, 4, 3, 10 ** 30, ("sure", 3), "Told", ["told", 0], ((0,),), ([0],)]:
            self.check_things([(thing, (0,), ("sure", 0)), (("told", 0), thing, ("sure", 0)),
                               (("told", 0), (0,), thing), ((thing, 0), (0,), ("sure", 0)),
                               (("told", 0), (0,), (thing, 0)), (("told", 0), (0,), ("told", thing)),
                               (("told", thing), (3,), ("told", 1)), (("told", 0), (0,), ("sure", 0), thing),
                               (("told", 0), (0,), ("sure", thing)), (("sure", thing), (0, 1), ("sure", 2))], False)

    def test_indexes_counted_from_the_end(self):
        self.check_things([(("told", -3), (0,), ("sure", 0)), (("told", 0), (-4,), ("sure", 0)),
                           (("told", 0), (0,), ("sure", -4)), (("sure", -3), (0, 1), ("sure", 2))], False)

    def test_other_values(self):
        made = [self.book, way(self.book, 0, 1), reason(self.book), step(self.book, (0, "early"), (0, "late")),
                NoFit(("bounds", (("sure", 1), (0, 1), ("sure", 2))))]
        self.check_things(NEITHER + made + [SameAsAll(), 0, "told", (), ((), (), ()), (None, None, None), [[], [], []]],
                          False)

    def test_what_was_told_with_a_part_altered(self):
        self.assertIsNone(ring(self.book))
        right = {repr(some) for some in all_links(self.book, 6)}
        told = [link(self.book, start, end) for start in floors(self.book) for end in ceilings(self.book)]
        told = [some for some in told if some is not None]
        self.assertGreater(len(told), 8)
        for some in told:
            self.check_things([some], True)
            for thing in altered(some):
                self.assertIs(is_link(self.book, thing), repr(thing) in right, thing)

    def test_books_as_they_come(self):
        links = 0
        for book in mixed_books("is link", 60, items=(0, 3), numbers=(-2, 2)):
            right = all_links(book, 3)
            links += len(right)
            for some in right:
                self.assertIs(is_link(book, some), True)
            for start in list(floors(book)) + list(ceilings(book)):
                for end in list(floors(book)) + list(ceilings(book)):
                    for indexes in ((), (0,), (1,), (0, 1), (1, 0)):
                        self.assertIs(is_link(book, (start, indexes, end)), (start, indexes, end) in right)
        self.assertGreater(links, 100)

    def test_books_with_a_ring(self):
        book = Book(2, 1, [(0, 0, 5), (0, 1, 9)], [(0, 1, 1), (1, 0, 0)])
        self.assertIs(is_link(book, (("told", 0), (0, 1) * 3 + (0,), ("told", 1))), False)
        self.assertIs(is_link(book, (("told", 0), (0, 1) * 4 + (0,), ("told", 1))), True)
        self.assertIs(is_link(book, (("told", 0), (0, 1) * 900 + (0,), ("told", 1))), True)
        self.assertIs(is_link(book, (("told", 0), (0, 1), ("told", 0))), True)
        self.assertIs(is_link(book, (("told", 0), (), ("told", 0))), False)

    def test_empty_books(self):
        for book in (Book(0, 0), Book(0, 8), Book(8, 0)):
            for thing in ((("told", 0), (), ("told", 0)), (("sure", 0), (), ("sure", 0)),
                          (("told", -1), (), ("told", -1)), (), None):
                self.assertIs(is_link(book, thing), False)


class ExamplesTest(unittest.TestCase):
    def test_examples_of_the_document(self):
        book = Book(2, 2, [(0, 0, 5), (1, 0, 3), (1, 1, 9)], [(0, 1, 2)], [(1, "most", 6)])
        self.assertEqual(link(book, ("told", 0), ("told", 1)), (("told", 0), (), ("told", 1)))
        self.assertEqual([link(book, ("told", 0), ("sure", 0)), link(book, ("told", 1), ("sure", 0)),
                          bounds_link(book)], [(("told", 0), (0,), ("sure", 0)), None, None])


if __name__ == "__main__":
    unittest.main()
