"""[90] whys and are_whys, with [2], [3] and [4]."""

import unittest

from earlyorlate.books import Book
from earlyorlate.compared import are_whys, implies, whys
from earlyorlate.errors import NoFit
from earlyorlate.fits import explained
from earlyorlate.reasons import reason
from tests.checks import check_quick, unfit_books
from tests.helper import NEITHER, SameAsAll
from tests.oracle import altered, is_true_reason, judge_of_reasons, mixed_books, planted_books
from tests.saying import items_of, made, pairs_of_books, says_all, true_contraries, with_items

E, L = "early", "late"


def is_right_form(one, other, thing):
    """Whether a value is a list of a tuple for each item of other, of as many values as this has contraries."""
    if thing.__class__ is not list or any(row.__class__ is not tuple for row in thing):
        return False
    return [len(row) for row in thing] == [2 if sort == "tellings" else 1 for sort, _ in items_of(other)]


def judge_of_whys(one, other, most_gaps=4):
    """A function that tells of any value whether it is whys of other by one with ways of at most so many gaps."""
    rows = [[judge_of_reasons(book, most_gaps) for book in true_contraries(one, sort, item)]
            for sort, item in items_of(other)]

    def is_right(thing):
        return is_right_form(one, other, thing) and all(judge(some) for judges, row in zip(rows, thing)
                                                        for judge, some in zip(judges, row))
    return is_right


class WhysTest(unittest.TestCase):
    def check_whys(self, one, other, right):
        """Check whys of books of which the one implies the other, or not."""
        found = whys(one, other)
        if not right:
            self.assertIsNone(found)
            return
        self.assertTrue(is_right_form(one, other, found), found)
        for (sort, item), row in zip(items_of(other), found):
            for book, some in zip(true_contraries(one, sort, item), row):
                self.assertTrue(is_true_reason(book, some), some)
        self.assertIs(are_whys(one, other, found), True)

    def check_things(self, one, other, things, right):
        for thing in things:
            self.assertIs(are_whys(one, other, thing), right, thing)

    one = Book(2, 3, [(0, 0, 5), (1, 1, 9)], [(0, 1, 4), (0, 1, 6)], [(0, "least", 3)], [(0, E, 0, E), (1, L, 2, E)])
    other = Book(2, 3, [(0, 0, 5), (1, 1, 9)], [(0, 1, 4)], [(1, "least", 11), (0, "least", 5)], [(0, E, 2, L)])


class ToldTest(WhysTest):
    def test_each_item_in_order(self):
        self.check_whys(self.one, self.other, True)
        found = whys(self.one, self.other)
        self.assertEqual([len(row) for row in found], [2, 2, 1, 1, 1, 1])
        self.assertEqual([found[2][0][0], found[3][0][0], found[5][0][0]], ["gaps", "kinds", "kinds"])

    def test_not_implied(self):
        for item in (("tellings", (2, 0, 6)), ("gaps", (0, 1, 7)), ("sure", (0, "least", 6)), ("clauses", (1, L, 2, L))):
            self.check_whys(self.one, with_items(self.other, item), False)
            self.check_whys(self.one, made(self.other, [item]), False)

    def test_edges(self):
        for book in (Book(0, 0), Book(8, 8), Book(0, 8), Book(8, 0)):
            self.check_whys(book, book, True)
            self.check_things(book, book, [[]], True)
        self.check_whys(self.one, Book(2, 3), True)
        self.check_things(self.one, Book(2, 3), [(), [()], [None], None, {}, ""], False)

    def test_books_without_an_explanation(self):
        for book in unfit_books():
            for other in unfit_books():
                self.check_whys(book, other, True)

    def test_books_as_they_come(self):
        right = 0
        books = mixed_books("whys", 80, events=(1, 3), witnesses=(0, 3), items=(1, 4), numbers=(-4, 4), gaps=(-6, 1))
        pairs = pairs_of_books("whys", books)
        for one, other in pairs:
            is_right = says_all(one, other)
            right += is_right
            self.check_whys(one, other, is_right)
            self.assertIs(implies(one, other), is_right)
        self.assertTrue(40 < right < len(pairs) - 40, right)

    def test_great_books_in_good_time(self):
        for book in planted_books("whys", 2):
            found = check_quick(self, 2, whys, book, book)
            self.assertIs(check_quick(self, 2, are_whys, book, book, found), True)
            self.assertEqual(len(found), 80)
            self.check_whys(book, made(book, items_of(book)[::5]), True)
            fewer = made(book, items_of(book)[::3])
            self.assertEqual(whys(fewer, book) is None, not implies(fewer, book))


class JudgedTest(WhysTest):
    def test_rows_out_twice_or_exchanged(self):
        found = whys(self.one, self.other)
        less = [found[:at] + found[at + 1:] for at in range(len(found))]
        more = [found[:at] + [found[at]] + found[at:] for at in range(len(found))]
        self.check_things(self.one, self.other, [found], True)
        self.check_things(self.one, self.other, less + more + [found[::-1], found + [()], [()] + found, found * 2,
                                                               found[:2] + [found[3], found[2]] + found[4:],
                                                               found[:4] + [found[5], found[4]]], False)

    def test_reasons_exchanged(self):
        # What is known of the contrary has the next index, so these differ.
        found = whys(self.one, self.other)
        self.assertNotEqual(found[0][0], found[0][1])
        self.check_things(self.one, self.other, [[row[::-1]] + found[1:] for row in found[:1]], False)
        self.check_things(self.one, self.other, [found[:1] + [found[1][:1]] + found[2:], found[:1] + [found[1] * 2] + found[2:],
                                                 found[:2] + [()] + found[3:], found[:2] + [found[2][0]] + found[3:],
                                                 found[:2] + [list(found[2])] + found[3:]], False)

    def test_other_reasons(self):
        # Both gaps say that the contrary of the gap cannot be.
        found = whys(self.one, self.other)
        for around, right in (((0, 2), True), ((1, 2), True), ((2, 0), True), ((2, 1), True), ((1, 2, 1, 2), True),
                              ((2,), False), ((0, 1), False), ((1, 3), False), ((), False), ((True, 2), False)):
            self.check_things(self.one, self.other, [found[:2] + [(("gaps", around),)] + found[3:]], right)

    def test_what_was_told_with_a_part_altered(self):
        many = 0
        books = mixed_books("altered whys", 30, events=(1, 2), witnesses=(0, 2), items=(0, 2))
        for one, other in [(self.one, self.other)] + pairs_of_books("altered whys", books):
            found = whys(one, other)
            if found is not None:
                judge = judge_of_whys(one, other)
                self.assertTrue(judge(found))
                for thing in altered(found):
                    self.check_things(one, other, [thing], judge(thing))
                    many += 1
        self.assertGreater(many, 3000)

    def test_other_values(self):
        found = whys(self.one, self.other)
        self.check_things(self.one, self.other, NEITHER + [
            SameAsAll(), 0, 1, [], (), [()], [[]], "whys", tuple(found), [found], {at: row for at, row in enumerate(found)},
            [list(row) for row in found], [None] * 6, [SameAsAll()] * 6, [(None, None)] * 2 + [(None,)] * 4,
            [(SameAsAll(), SameAsAll())] * 2 + [(SameAsAll(),)] * 4, found[:5] + [None], [row[0] for row in found],
            reason(unfit_books()[0]), NoFit(0), explained(self.one), self.one], False)

    def test_books_that_do_not_imply(self):
        other = self.other.with_sure(0, "least", 6)
        found = whys(self.one, self.other)
        self.check_things(self.one, other, [found, None, [], found[:5] + [found[4]] + found[5:]], False)


if __name__ == "__main__":
    unittest.main()
