"""[62] news, with [2], [3], [4] and [12]."""

import unittest
from itertools import product

from earlyorlate.books import Book
from earlyorlate.news import early_to, late_from, news_of, settles, word_of
from tests.checks import check_no_fit, check_quick, check_unchanged, unfit_books
from tests.helper import KINDS
from tests.oracle import all_literals, ends_of, kinds_that_fit, mixed_books, planted_books, rows_of

E, L = "early", "late"
GREAT = 10 ** 12
GREATER = 10 ** 13


def word_by(rows, w):
    """The word of w where these are all kinds that fit."""
    kinds = {row[w] for row in rows}
    return "both" if len(kinds) == 2 else kinds.pop() if kinds else "none"


def sure_by(rows, book):
    return [(w, kind) for w, kind in all_literals(book) if all(row[w] == kind for row in rows)]


class NewsTest(unittest.TestCase):
    def check_asked(self, book, w, e, numbers):
        """Check word_of and settles for these numbers, and return the words, all by the book with the telling."""
        before = sure_by(rows_of(book), book)
        words = []
        for x in numbers:
            rows = rows_of(book.with_telling(w, e, x))
            words.append(word_by(rows, w))
            self.assertEqual(word_of(book, w, e, x), words[-1], (w, e, x))
            found = settles(book, w, e, x)
            if rows:
                self.assertEqual(found, [one for one in sure_by(rows, book) if one not in before])
            else:
                self.assertIsNone(found)
        return words

    def check_stretches(self, found):
        """Check that these are stretches as long as possible, which hold all integers."""
        self.assertIsInstance(found, list)
        self.assertIsNone(found[0][0])
        self.assertIsNone(found[-1][1])
        for (_, high, word), (low, _, other) in zip(found, found[1:]):
            self.assertEqual(high + 1, low)
            self.assertNotEqual(word, other)
        for low, high, word in found:
            self.assertIn(word, ("both", E, L, "none"))
            self.assertTrue(low is None or high is None or low <= high)

    def check_ends(self, book, w, e, found):
        """Check what late_from and early_to return by the words that news_of does."""
        late = [low for low, _, word in found if word in (L, "both")]
        early = [high for _, high, word in found if word in (E, "both")]
        self.assertEqual(late_from(book, w, e),
                         ("never",) if not late else ("always",) if late[0] is None else ("from", late[0]))
        self.assertEqual(early_to(book, w, e),
                         ("never",) if not early else ("always",) if early[-1] is None else ("to", early[-1]))

    def check_pair(self, book, w, e, more=()):
        """Check all five functions; return the words."""
        found = news_of(book, w, e)
        self.check_stretches(found)
        self.check_ends(book, w, e, found)
        numbers = {end + by for low, high, _ in found for end in (low, high) if end is not None for by in (-1, 0, 1)}
        numbers = sorted(numbers | {-GREATER, 0, GREATER} | set(more))
        words = [[word for low, high, word in found if (low is None or low <= x) and (high is None or x <= high)]
                 for x in numbers]
        self.assertEqual(words, [[word] for word in self.check_asked(book, w, e, numbers)])
        return [word for _, _, word in found]

    def check_book(self, book, more=()):
        return [self.check_pair(book, w, e, more) for w in range(book.witnesses) for e in range(book.events)]


class WordsTest(NewsTest):
    def check_news(self, book, w, e, *stretches):
        self.assertEqual(news_of(book, w, e), list(stretches))
        self.check_pair(book, w, e, range(-3, 12))

    def test_nothing_told(self):
        for events, witnesses in product((1, 8), repeat=2):
            book = Book(events, witnesses)
            for w, e in product((0, witnesses - 1), (0, events - 1)):
                self.check_news(book, w, e, (None, None, "both"))
                self.assertEqual([late_from(book, w, e), early_to(book, w, e)], [("always",), ("always",)])
                self.assertEqual(settles(book, w, e, 0), [])

    def test_a_window(self):
        book = Book(1, 1, [], [], [(0, "least", 3), (0, "most", 8)])
        self.check_news(book, 0, 0, (None, 2, E), (3, 8, "both"), (9, None, L))
        self.assertEqual([late_from(book, 0, 0), early_to(book, 0, 0)], [("from", 3), ("to", 8)])
        self.assertEqual([settles(book, 0, 0, x) for x in (2, 3, 8, 9)], [[(0, E)], [], [], [(0, L)]])

    def test_a_window_of_one(self):
        self.check_news(Book(1, 1, [], [], [(0, "least", 3), (0, "most", 3)]), 0, 0,
                        (None, 2, E), (3, 3, "both"), (4, None, L))

    def test_one_end(self):
        self.check_news(Book(1, 1, [], [], [(0, "least", 3)]), 0, 0, (None, 2, E), (3, None, "both"))
        self.check_news(Book(1, 1, [], [], [(0, "most", 3)]), 0, 0, (None, 3, "both"), (4, None, L))

    def test_a_kind_that_is_known(self):
        book = Book(1, 1, [], [], [(0, "least", 3), (0, "most", 8)])
        early, late = book.with_known(0, E), book.with_known(0, L)
        self.check_news(early, 0, 0, (None, 8, E), (9, None, "none"))
        self.check_news(late, 0, 0, (None, 2, "none"), (3, None, L))
        self.assertEqual([late_from(early, 0, 0), early_to(early, 0, 0)], [("never",), ("to", 8)])
        self.assertEqual([late_from(late, 0, 0), early_to(late, 0, 0)], [("from", 3), ("never",)])
        self.assertEqual([settles(early, 0, 0, 8), settles(early, 0, 0, 9)], [[], None])
        self.check_news(Book(1, 1, [(0, 0, 9)], [], [(0, "most", 8)]), 0, 0, (None, None, L))
        self.check_news(Book(1, 1, [], [], [], [(0, E, 0, E)]), 0, 0, (None, None, E))

    def test_a_kind_for_early_times_and_one_for_late_times(self):
        # Witness 0 is early just if witness 1 is late, and so if the event is not after 2.
        parting = [(0, E, 1, E), (0, L, 1, L)]
        apart = Book(1, 2, [(1, 0, 2), (1, 0, 9)], [], [], parting)
        self.check_news(apart, 0, 0, (None, 2, E), (3, 8, "none"), (9, None, L))
        beside = Book(1, 2, [(1, 0, 2), (1, 0, 3)], [], [], parting)
        self.check_news(beside, 0, 0, (None, 2, E), (3, None, L))
        self.check_news(Book(1, 2, [(1, 0, 2)], [], [], parting), 0, 0, (None, 1, E), (2, 2, "both"), (3, None, L))
        turned = Book(1, 2, [(1, 0, 2), (1, 0, 9)], [], [], [(0, E, 1, L), (0, L, 1, E)])
        self.check_news(turned, 0, 0, (None, None, "both"))

    def test_gaps(self):
        book = Book(3, 2, [(0, 0, 5)], [(0, 1, 2), (1, 2, 3)], [(0, "least", 0), (2, "most", 9)])
        self.check_news(book, 1, 1, (None, 1, E), (2, 6, "both"), (7, None, L))
        self.check_news(book, 1, 2, (None, 4, E), (5, 9, "both"), (10, None, L))
        self.check_news(book, 1, 0, (None, -1, E), (0, 4, "both"), (5, None, L))
        self.check_news(book, 0, 0, (None, -1, "none"), (0, None, L))

    def test_what_others_become(self):
        book = Book(1, 3, [(1, 0, 4), (2, 0, 6)], [], [], [(0, E, 0, E)])
        self.assertEqual([settles(book, 0, 0, x) for x in (4, 5, 6, 7)], [[], [(1, E)], [(1, E)], [(1, E), (2, E)]])
        book = book.with_sure(0, "most", 6)
        self.assertEqual([settles(book, 0, 0, x) for x in (4, 5, 6, 7)], [[], [(1, E)], [(1, E)], None])

    def test_great_numbers(self):
        for low, high in ((-GREAT, GREAT), (GREAT, GREAT), (-GREAT, -GREAT)):
            book = Book(2, 2, [(1, 0, 0)], [(0, 1, GREAT), (1, 0, -GREAT)], [(0, "least", low), (0, "most", high)])
            self.check_pair(book, 0, 0)
            self.assertEqual(news_of(book, 0, 1), [(None, low + GREAT - 1, E), (low + GREAT, high + GREAT, "both"),
                                                   (high + GREAT + 1, None, L)])
            self.check_pair(book, 0, 1, [low + GREAT, high + GREAT])


class BooksTest(NewsTest):
    def test_small_books_against_all_kinds_and_times(self):
        for book in mixed_books("news", 25, events=(1, 2), witnesses=(1, 2), items=(0, 3), gaps=(-3, 0)):
            if kinds_that_fit(book, 4):
                for w, e, x in product(range(book.witnesses), range(book.events), range(-4, 5)):
                    rows = kinds_that_fit(book.with_telling(w, e, x), 7)
                    self.assertEqual(word_of(book, w, e, x), word_by(rows, w))

    def test_books_as_they_come(self):
        seen = []
        for book in mixed_books("more news", 200, events=(1, 3), witnesses=(1, 3), items=(0, 4), numbers=(-4, 4),
                                gaps=(-7, 1), clauses=(0, 3)):
            if rows_of(book):
                seen += self.check_book(book, range(-6, 7))
        rows = sorted({tuple(words) for words in seen})
        self.assertLessEqual({("both",), (E,), (L,), (E, "both"), ("both", L), (E, "both", L), (E, "none"), ("none", L)},
                             set(rows))

    def test_great_books(self):
        words = []
        for at, book in enumerate(planted_books("news", 5, slack=40, tellings=9, clauses=6)):
            words += [self.check_pair(book, (at + e) % 8, e) for e in range(at, 8, 3)]
        self.assertIn([E, "both", L], words)

    def test_great_books_in_good_time(self):
        self.assertEqual(len(rows_of(Book(8, 8, [(w, 0, 5) for w in range(8)]))), 256)
        loose = Book(8, 8, [(at % 8, at % 8, 5) for at in range(20)], [(at % 8, (at + 3) % 8, -at) for at in range(20)],
                     [(at % 8, ("least", "most")[at // 8 % 2], (-99, 99)[at // 8 % 2]) for at in range(20)],
                     [(at % 8, E, at % 8, L) for at in range(20)])
        self.assertEqual(len(rows_of(loose)), 256)
        for book in [loose] + planted_books("quick", 2) + planted_books("quicker", 2, slack=0):
            for call, more in ((word_of, [7]), (late_from, []), (early_to, []), (news_of, []), (settles, [7])):
                check_quick(self, 2, call, book, 3, 4, *more)
            self.check_pair(book, 5, 2)

    def test_no_fit(self):
        for book in unfit_books():
            for w, e in product(range(2), range(3)):
                for call in (late_from, early_to, news_of):
                    check_no_fit(self, book, call, w, e)
                for call, x in product((word_of, settles), (-GREATER, 7, GREATER)):
                    check_no_fit(self, book, call, w, e, x)

    def test_a_telling_without_an_explanation_is_no_error(self):
        book = Book(1, 2, [(1, 0, 5)], [], [(0, "least", 3), (0, "most", 8)], [(0, E, 0, E)])
        self.assertEqual([word_of(book, 0, 0, 9), settles(book, 0, 0, 9)], ["none", None])
        self.assertEqual([word_of(book, 0, 0, GREATER), settles(book, 0, 0, GREATER)], ["none", None])

    def test_20_tellings_already(self):
        book = Book(1, 2, [(at % 2, 0, (0, 9)[at % 2]) for at in range(20)])
        self.assertEqual(news_of(book, 0, 0), [(None, None, "both")])
        self.assertEqual(news_of(book.with_known(1, E), 1, 0), [(None, None, E)])
        self.check_book(book, range(-1, 11))

    def test_the_book_stays(self):
        book = Book(2, 2, [(0, 0, 5), (1, 1, 3)], [(0, 1, 2)], [(1, "most", 6), (0, "least", 1)], [(0, L, 1, E)])
        check_unchanged(self, book, lambda some: word_of(some, 0, 1, 4), lambda some: late_from(some, 1, 0),
                        lambda some: early_to(some, 1, 0), lambda some: news_of(some, 1, 0),
                        lambda some: settles(some, 1, 0, 9), lambda some: settles(some, 0, 0, -9))


class ExamplesTest(unittest.TestCase):
    def test_examples_of_the_document(self):
        book = Book(2, 3, [(0, 0, 5), (1, 0, 3), (1, 1, 9), (2, 1, 4)], [(0, 1, 2)], [(0, "least", 4)])
        self.assertEqual([late_from(book, 0, 0), early_to(book, 0, 0), news_of(book, 0, 0), news_of(book, 1, 0),
                          settles(book, 0, 0, 3)],
                         [("from", 4), ("always",), [(None, 3, E), (4, None, "both")], [(None, None, E)], [(0, E)]])
        shut = Book(1, 1, [(0, 0, 5)], [], [(0, "least", 3), (0, "most", 8)])
        self.assertEqual([news_of(shut, 0, 0), word_of(shut, 0, 0, 6)],
                         [[(None, 2, E), (3, 8, "both"), (9, None, L)], "both"])
        self.assertEqual([ends_of(shut, (kind,)) for kind in KINDS], [((5,), (8,)), ((3,), (5,))])


if __name__ == "__main__":
    unittest.main()
