"""[22] Books that are led on from: with_.., without, struck, moved, turned, renamed, both."""

import unittest

from earlyorlate.books import Book
from earlyorlate.errors import NoIndex, TooMany, Unequal, Wrong
from tests.helper import (FAR, KINDS, NO_KINDS, NO_NUMBERS, NO_SIDES, SIDES, check_raised, full_book, out_of_range)

PARTS = ("tellings", "gaps", "sure", "clauses")

TELLINGS = [(0, 0, 5), (1, 0, 3), (2, 1, 9), (1, 2, -4), (2, 1, 9)]
GAPS = [(0, 1, 2), (1, 0, -7), (2, 0, 0)]
SURE = [(1, "most", 6), (0, "least", -2), (2, "most", 0)]
CLAUSES = [(0, "early", 1, "late"), (1, "late", 1, "late"), (2, "early", 1, "early"), (0, "late", 2, "late")]


def sample():
    return Book(3, 3, TELLINGS, GAPS, SURE, CLAUSES)


def parts_of(book):
    return [list(getattr(book, part)) for part in PARTS]


class LedTest(unittest.TestCase):
    def check_made(self, made, tellings, gaps, sure, clauses):
        """Check what was made of a sample of three events and witnesses."""
        self.assertIsInstance(made, Book)
        self.assertEqual((made.events, made.witnesses), (3, 3))
        self.assertEqual(parts_of(made), [tellings, gaps, sure, clauses])

    def check_adding(self, at, name, good, added, bad_values):
        """Check a method that puts one more item at the end of a part."""
        book = sample()
        parts = [TELLINGS, GAPS, SURE, CLAUSES]
        parts[at] = parts[at] + [added]
        self.check_made(getattr(book, name)(*good), *parts)
        self.assertEqual(book, sample())
        full = book
        while len(getattr(full, PARTS[at])) < 24:
            full = getattr(full, name)(*good)
        check_raised(self, TooMany, {"limit": 24}, getattr(full, name), *good)
        for place, values in enumerate(bad_values):
            for value in values:
                bad = good[:place] + (value,) + good[place + 1:]
                check_raised(self, Wrong, {"place": place}, getattr(book, name), *bad)
                check_raised(self, Wrong, {"place": place}, getattr(full, name), *bad)
                worse = good[:place] + (value,) + (None,) * (len(good) - place - 1)
                check_raised(self, Wrong, {"place": place}, getattr(full, name), *worse)
        self.assertEqual(book, sample())
        self.assertEqual(len(getattr(full, PARTS[at])), 24)


class AddedTest(LedTest):
    def test_with_telling(self):
        bad = (out_of_range(3), out_of_range(3), NO_NUMBERS)
        self.check_adding(0, "with_telling", (2, 1, -8), (2, 1, -8), bad)

    def test_with_gap(self):
        bad = (out_of_range(3), out_of_range(3) + [2], NO_NUMBERS)
        self.check_adding(1, "with_gap", (2, 1, 8), (2, 1, 8), bad)

    def test_with_sure(self):
        self.check_adding(2, "with_sure", (2, "least", 8), (2, "least", 8), (out_of_range(3), NO_SIDES, NO_NUMBERS))

    def test_with_clause(self):
        bad = (out_of_range(3), NO_KINDS, out_of_range(3), NO_KINDS)
        self.check_adding(3, "with_clause", (2, "late", 0, "early"), (2, "late", 0, "early"), bad)

    def test_with_known(self):
        bad = (out_of_range(3), NO_KINDS)
        self.check_adding(3, "with_known", (2, "late"), (2, "late", 2, "late"), bad)
        self.check_adding(3, "with_known", (0, "early"), (0, "early", 0, "early"), bad)

    def test_greatest_numbers(self):
        for x in (FAR, -FAR):
            self.assertEqual(sample().with_telling(0, 0, x).tellings[-1], (0, 0, x))
            self.assertEqual(sample().with_gap(0, 1, x).gaps[-1], (0, 1, x))
            self.assertEqual(sample().with_sure(0, "most", x).sure[-1], (0, "most", x))

    def test_all_kinds_and_sides(self):
        for side in SIDES:
            self.assertEqual(sample().with_sure(1, side, 3).sure[-1], (1, side, 3))
        for kind in KINDS:
            for other in KINDS:
                self.assertEqual(sample().with_clause(1, kind, 1, other).clauses[-1], (1, kind, 1, other))

    def test_a_gap_from_an_event_to_itself(self):
        check_raised(self, Wrong, {"place": 1}, sample().with_gap, 1, 1, 5)
        check_raised(self, Wrong, {"place": 1}, sample().with_gap, 0, 0, FAR + 1)
        check_raised(self, Wrong, {"place": 0}, sample().with_gap, 3, 3, 5)
        check_raised(self, Wrong, {"place": 0}, sample().with_gap, True, True, 5)

    def test_events_and_witnesses_are_told_apart(self):
        book = Book(1, 3)
        self.assertEqual(book.with_telling(2, 0, 1).tellings, ((2, 0, 1),))
        check_raised(self, Wrong, {"place": 1}, book.with_telling, 2, 1, 1)
        check_raised(self, Wrong, {"place": 0}, book.with_sure, 1, "least", 1)
        self.assertEqual(book.with_known(2, "early").clauses, ((2, "early", 2, "early"),))

    def test_other_full_parts_do_not_matter(self):
        full = Book(2, 2, [(0, 0, 1)] * 24, [], [(0, "least", 1)] * 24, [])
        self.assertEqual(full.with_gap(0, 1, 5).gaps, ((0, 1, 5),))
        self.assertEqual(full.with_known(0, "late").clauses, ((0, "late", 0, "late"),))
        check_raised(self, TooMany, {"limit": 24}, full.with_telling, 0, 0, 1)
        check_raised(self, TooMany, {"limit": 24}, full.with_sure, 0, "most", 1)


class WithoutTest(LedTest):
    def test_each_item(self):
        book = sample()
        for at, part in enumerate(PARTS):
            items = parts_of(book)[at]
            for index in range(len(items)):
                parts = parts_of(book)
                parts[at] = items[:index] + items[index + 1:]
                self.check_made(book.without(part, index), *parts)
        self.assertEqual(book, sample())

    def test_values_that_are_no_index(self):
        book = sample()
        for part in PARTS:
            for index in out_of_range(len(getattr(book, part))):
                with self.assertRaises(NoIndex) as caught:
                    book.without(part, index)
                self.assertIs(caught.exception.index, index)
        self.assertEqual(book, sample())

    def test_empty_parts(self):
        for part in PARTS:
            for index in (0, -1):
                check_raised(self, NoIndex, {"index": index}, Book(3, 3).without, part, index)

    def test_the_last_item_of_a_part(self):
        for part in PARTS:
            left = full_book().without(part, 0)
            self.assertEqual(getattr(left, part), ())
            self.assertEqual(len(left.tellings + left.gaps + left.sure + left.clauses), 3)

    def test_it_leads_back(self):
        book = sample()
        self.assertEqual(book.with_gap(0, 2, 5).without("gaps", 3), book)
        self.assertEqual(book.with_known(0, "late").without("clauses", 4), book)


class StruckTest(LedTest):
    def test_one_witness(self):
        self.check_made(sample().struck([0]), TELLINGS[1:], GAPS, SURE, CLAUSES[1:3])
        self.check_made(sample().struck([1]), [TELLINGS[0], TELLINGS[2], TELLINGS[4]], GAPS, SURE, CLAUSES[3:])
        self.check_made(sample().struck([2]), [TELLINGS[0], TELLINGS[1], TELLINGS[3]], GAPS, SURE, CLAUSES[:2])

    def test_nobody(self):
        self.assertEqual(sample().struck([]), sample())

    def test_several_witnesses(self):
        self.check_made(sample().struck([0, 2]), [TELLINGS[1], TELLINGS[3]], GAPS, SURE, CLAUSES[1:2])
        self.check_made(sample().struck([2, 1, 0]), [], GAPS, SURE, [])

    def test_a_witness_named_twice(self):
        self.assertEqual(sample().struck([0, 2, 0, 0]), sample().struck([2, 0]))
        self.assertEqual(sample().struck([1, 1]), sample().struck([1]))

    def test_arguments_and_the_book_stay(self):
        book, names = sample(), [2, 0, 2]
        book.struck(names)
        self.assertEqual(names, [2, 0, 2])
        self.assertEqual(book, sample())


class MovedTest(LedTest):
    def test_moved(self):
        for by in (10, -3, 0, 10 ** 12):
            tellings = [(w, e, x + by) for w, e, x in TELLINGS]
            sure = [(e, side, x + by) for e, side, x in SURE]
            self.check_made(sample().moved(by), tellings, GAPS, sure, CLAUSES)

    def test_it_leads_back(self):
        book = sample()
        self.assertEqual(book.moved(7).moved(-7), book)
        self.assertEqual(book.moved(-FAR // 2).moved(FAR // 2), book)
        self.assertEqual(book, sample())

    def test_the_whole_way(self):
        book = Book(1, 1, [(0, 0, -FAR)], [], [(0, "most", -FAR)])
        self.assertEqual(book.moved(2 * FAR).tellings, ((0, 0, FAR),))
        self.assertEqual(book.moved(2 * FAR).sure, ((0, "most", FAR),))


class TurnedTest(LedTest):
    def test_turned(self):
        self.check_made(
            sample().turned(),
            [(0, 0, -5), (1, 0, -3), (2, 1, -9), (1, 2, 4), (2, 1, -9)],
            [(1, 0, 2), (0, 1, -7), (0, 2, 0)],
            [(1, "least", -6), (0, "most", 2), (2, "least", 0)],
            [(0, "late", 1, "early"), (1, "early", 1, "early"), (2, "late", 1, "late"), (0, "early", 2, "early")],
        )

    def test_it_leads_back(self):
        for book in (sample(), full_book(), Book(0, 0)):
            self.assertEqual(book.turned().turned(), book)
        self.assertNotEqual(sample().turned(), sample())

    def test_greatest_numbers(self):
        book = Book(2, 1, [(0, 0, FAR)], [(0, 1, FAR)], [(0, "least", -FAR)])
        self.assertEqual(book.turned(), Book(2, 1, [(0, 0, -FAR)], [(1, 0, FAR)], [(0, "most", FAR)]))

    def test_the_book_stays(self):
        book = sample()
        book.turned()
        self.assertEqual(book, sample())


class RenamedTest(LedTest):
    def test_renamed(self):
        self.check_made(
            sample().renamed([1, 2, 0], [2, 1, 0]),
            [(2, 1, 5), (1, 1, 3), (0, 2, 9), (1, 0, -4), (0, 2, 9)],
            [(1, 2, 2), (2, 1, -7), (0, 1, 0)],
            [(2, "most", 6), (1, "least", -2), (0, "most", 0)],
            [(2, "early", 1, "late"), (1, "late", 1, "late"), (0, "early", 1, "early"), (2, "late", 0, "late")],
        )

    def test_the_same_names(self):
        self.assertEqual(sample().renamed([0, 1, 2], [0, 1, 2]), sample())
        self.assertEqual(Book(0, 0).renamed([], []), Book(0, 0))

    def test_unlike_sizes(self):
        book = Book(2, 3, [(2, 0, 1)], [(0, 1, 4)])
        self.assertEqual(book.renamed([1, 0], [0, 2, 1]), Book(2, 3, [(1, 1, 1)], [(1, 0, 4)]))

    def test_it_leads_back(self):
        book, events, witnesses = sample(), [1, 2, 0], [2, 0, 1]
        there = book.renamed(events, witnesses)
        back = there.renamed([events.index(e) for e in range(3)], [witnesses.index(w) for w in range(3)])
        self.assertEqual(back, book)
        self.assertNotEqual(there, book)
        self.assertEqual((book, events, witnesses), (sample(), [1, 2, 0], [2, 0, 1]))


class BothTest(LedTest):
    def test_both(self):
        other = Book(3, 3, [(0, 2, 1)], [(1, 2, 7)], [(1, "least", 6)], [(1, "early", 2, "late")])
        self.check_made(sample().both(other), TELLINGS + [(0, 2, 1)], GAPS + [(1, 2, 7)],
                        SURE + [(1, "least", 6)], CLAUSES + [(1, "early", 2, "late")])
        self.check_made(other.both(sample()), [(0, 2, 1)] + TELLINGS, [(1, 2, 7)] + GAPS,
                        [(1, "least", 6)] + SURE, [(1, "early", 2, "late")] + CLAUSES)
        self.assertEqual(other.tellings, ((0, 2, 1),))

    def test_with_itself_and_with_nothing(self):
        book = sample()
        self.check_made(book.both(book), TELLINGS * 2, GAPS * 2, SURE * 2, CLAUSES * 2)
        self.assertEqual(book.both(Book(3, 3)), book)
        self.assertEqual(Book(3, 3).both(book), book)
        self.assertEqual(book, sample())

    def test_unlike_sizes(self):
        book = Book(1, 3, [(2, 0, 5)], [], [(0, "most", 4)])
        self.assertEqual(book.both(book), Book(1, 3, [(2, 0, 5)] * 2, [], [(0, "most", 4)] * 2))

    def test_unequal(self):
        fields = {"one": (3, 3), "other": (3, 4)}
        check_raised(self, Unequal, fields, sample().both, Book(3, 4))
        check_raised(self, Unequal, {"one": (2, 3), "other": (3, 3)}, Book(2, 3).both, sample())
        check_raised(self, Unequal, {"one": (3, 2), "other": (2, 3)}, Book(3, 2).both, Book(2, 3))
        check_raised(self, Unequal, {"one": (0, 0), "other": (8, 8)}, Book(0, 0).both, full_book())

    def test_too_many(self):
        items = [(0, 1, 5), (0, 1, 5), (0, "least", 5), (0, "late", 1, "late")]
        for at, item in enumerate(items):
            parts = [(), (), (), ()]
            parts[at] = [item] * 12
            book = Book(2, 2, *parts)
            self.assertEqual(getattr(book.both(book), PARTS[at]), (item,) * 24)
            parts[at] = [item] * 13
            check_raised(self, TooMany, {"limit": 24}, book.both, Book(2, 2, *parts))
            check_raised(self, TooMany, {"limit": 24}, Book(2, 2, *parts).both, book)

    def test_unequal_is_ahead_of_too_many(self):
        many = [(0, 1, 5)] * 24
        fields = {"one": (2, 2), "other": (2, 3)}
        check_raised(self, Unequal, fields, Book(2, 2, many).both, Book(2, 3, many))
        check_raised(self, TooMany, {"limit": 24}, Book(2, 2, many).both, Book(2, 2, many))


class ExamplesTest(unittest.TestCase):
    def test_examples_of_the_document(self):
        book = Book(2, 2, [(0, 0, 5), (1, 0, 3), (1, 1, 9)], [(0, 1, 2)], [(1, "most", 6)])
        self.assertEqual(
            [book.told_by(1), book.is_plain(), book.turned().gaps, book.turned().sure, book.moved(10).tellings[0]],
            [[1, 2], True, ((1, 0, 2),), ((1, 'least', -6),), (0, 0, 15)])
        self.assertEqual(
            [book.struck([1, 1]).tellings, book.with_known(0, "late").clauses, book.without("gaps", 0) == book],
            [((0, 0, 5),), ((0, 'late', 0, 'late'),), False])


if __name__ == "__main__":
    unittest.main()
