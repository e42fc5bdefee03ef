"""The oracles for greater books, against going through all kinds and times of small ones."""

import unittest
from itertools import product

from tests.oracle import ends_of, holds, kinds_that_fit, least_sets, mixed_books, plain, planted_books, rows_of, sets_of


class OracleTest(unittest.TestCase):
    def test_rows_and_ends(self):
        some = 0
        for book in mixed_books("oracle", 200, events=(0, 2)) + mixed_books("oracle 3", 30, events=(3, 3)):
            self.assertEqual(rows_of(book), kinds_that_fit(book, 4))
            for kinds in rows_of(book):
                some += 1
                times = [some for some in product(range(-6, 7), repeat=book.events) if holds(book, kinds, some)]
                for e, (low, high) in enumerate(zip(*ends_of(book, kinds))):
                    reached = [some[e] for some in times]
                    # The gaps keep some times from the very ends of what is gone through.
                    self.assertEqual(low, None if min(reached) < -3 else min(reached))
                    self.assertEqual(high, None if max(reached) > 3 else max(reached))
        self.assertGreater(some, 100)

    def test_planted_books_fit(self):
        for book in planted_books("oracle", 5) + planted_books("oracle", 5, plainly=True):
            self.assertTrue(rows_of(book))
            self.assertEqual([len(part) for part in (book.tellings, book.gaps, book.sure, book.clauses)], [20] * 4)

    def test_plain(self):
        many = 0
        for book in mixed_books("plain", 60):
            many += plain(book) != book
            self.assertIs(plain(book).is_plain(), True)
        self.assertGreater(many, 5)

    def test_sets(self):
        book = mixed_books("sets", 1, witnesses=(3, 3))[0]
        self.assertEqual(sets_of(book), [(), (0,), (1,), (2,), (0, 1), (0, 2), (1, 2), (0, 1, 2)])
        self.assertEqual(least_sets([(0,), (0, 1), (1, 2), (0, 1, 2)]), [(0,), (1, 2)])


if __name__ == "__main__":
    unittest.main()
