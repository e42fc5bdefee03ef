"""[22] what a Book is asked: its properties, ==, is_plain, told_by."""

import unittest
from itertools import product

from earlyorlate.books import Book
from tests.helper import KINDS, NEITHER

TELLINGS = [(0, 0, 5), (1, 0, 3), (1, 1, 9)]
GAPS = [(0, 1, 2), (1, 0, -7)]
SURE = [(1, "most", 6), (0, "least", -2)]
CLAUSES = [(0, "early", 1, "late"), (1, "late", 1, "late")]


def sample():
    return Book(2, 2, TELLINGS, GAPS, SURE, CLAUSES)


class PropertiesTest(unittest.TestCase):
    def test_properties(self):
        book = sample()
        self.assertEqual((book.events, book.witnesses), (2, 2))
        self.assertEqual(book.tellings, tuple(TELLINGS))
        self.assertEqual(book.gaps, tuple(GAPS))
        self.assertEqual(book.sure, tuple(SURE))
        self.assertEqual(book.clauses, tuple(CLAUSES))
        for part in (book.tellings, book.gaps, book.sure, book.clauses):
            self.assertIsInstance(part, tuple)

    def test_sizes_are_not_mixed_up(self):
        self.assertEqual((Book(3, 5).events, Book(3, 5).witnesses), (3, 5))

    def test_they_cannot_be_set(self):
        book = sample()
        for name in ("events", "witnesses", "tellings", "gaps", "sure", "clauses"):
            with self.assertRaises(AttributeError):
                setattr(book, name, getattr(book, name))
        self.assertEqual(book, sample())

    def test_they_are_defined_as_properties_of_the_class(self):
        for name in ("events", "witnesses", "tellings", "gaps", "sure", "clauses"):
            self.assertIsInstance(vars(Book)[name], property)


class EqualTest(unittest.TestCase):
    def check_unlike(self, one, other):
        self.assertIs(one == other, False)
        self.assertIs(other == one, False)
        self.assertIs(one != other, True)

    def test_equal(self):
        self.assertIs(sample() == sample(), True)
        self.assertIs(sample() != sample(), False)
        self.assertIs(sample() == Book(2, 2, tuple(TELLINGS), tuple(GAPS), tuple(SURE), tuple(CLAUSES)), True)
        self.assertIs(Book(0, 0) == Book(0, 0, [], (), [], ()), True)
        book = sample()
        self.assertIs(book == book, True)

    def test_another_size(self):
        self.check_unlike(sample(), Book(3, 2, TELLINGS, GAPS, SURE, CLAUSES))
        self.check_unlike(sample(), Book(2, 3, TELLINGS, GAPS, SURE, CLAUSES))
        self.check_unlike(Book(0, 1), Book(1, 0))
        self.check_unlike(Book(0, 0), Book(0, 1))

    def test_another_part(self):
        parts = [TELLINGS, GAPS, SURE, CLAUSES]
        others = [[(0, 0, 6), (1, 0, 3), (1, 1, 9)], [(0, 1, 3), (1, 0, -7)], [(1, "least", 6), (0, "least", -2)],
                  [(0, "late", 1, "late"), (1, "late", 1, "late")]]
        for at in range(4):
            for unlike in (others[at], parts[at][::-1], parts[at][:1], parts[at][1:], [], parts[at] + parts[at][:1]):
                changed = parts[:at] + [unlike] + parts[at + 1:]
                self.check_unlike(sample(), Book(2, 2, *changed))

    def test_items_in_another_part(self):
        self.check_unlike(Book(2, 2, [(0, 1, 5)]), Book(2, 2, [], [(0, 1, 5)]))

    def test_a_clause_with_its_literals_exchanged(self):
        one = Book(1, 2, [], [], [], [(0, "early", 1, "late")])
        self.check_unlike(one, Book(1, 2, [], [], [], [(1, "late", 0, "early")]))

    def test_other_values(self):
        book = sample()
        parts = (2, 2, tuple(TELLINGS), tuple(GAPS), tuple(SURE), tuple(CLAUSES))
        for thing in [parts, list(parts), {}, 2, "Book"] + NEITHER:
            self.check_unlike(book, thing)

    def test_something_with_the_same_six_values(self):
        class Other:
            events, witnesses = 2, 2
            tellings, gaps, sure, clauses = tuple(TELLINGS), tuple(GAPS), tuple(SURE), tuple(CLAUSES)

        self.check_unlike(sample(), Other())


class PlainTest(unittest.TestCase):
    def plain(self, *clauses):
        return Book(1, 3, [], [], [], clauses).is_plain()

    def test_no_clauses(self):
        self.assertIs(self.plain(), True)
        self.assertIs(sample().struck([0, 1]).is_plain(), True)

    def test_one_clause(self):
        for w, kind, v, other in product(range(3), KINDS, range(3), KINDS):
            self.assertIs(self.plain((w, kind, v, other)), w == v or kind != other)

    def test_several_clauses(self):
        plain = [(0, "early", 1, "late"), (2, "late", 2, "late"), (2, "late", 1, "early")]
        unplain = (0, "early", 2, "early")
        self.assertIs(self.plain(*plain), True)
        for at in range(4):
            self.assertIs(self.plain(*plain[:at], unplain, *plain[at:]), False)
        self.assertIs(self.plain(unplain, (1, "late", 0, "late")), False)

    def test_other_parts_do_not_matter(self):
        self.assertIs(sample().is_plain(), True)
        self.assertIs(sample().with_clause(0, "late", 1, "late").is_plain(), False)


class ToldByTest(unittest.TestCase):
    def test_told_by(self):
        book = Book(2, 4, [(2, 1, 0), (0, 0, 2), (2, 0, 1), (1, 1, 0), (2, 1, 0)])
        self.assertEqual([book.told_by(w) for w in range(4)], [[1], [3], [0, 2, 4], []])

    def test_clauses_do_not_matter(self):
        book = Book(1, 2, [(0, 0, 1)], [], [], [(1, "early", 1, "early")])
        self.assertEqual([book.told_by(0), book.told_by(1)], [[0], []])

    def test_the_list_is_new(self):
        book = sample()
        book.told_by(1).append(7)
        self.assertEqual(book.told_by(1), [1, 2])
        self.assertEqual(book.told_by(0), [0])


if __name__ == "__main__":
    unittest.main()
