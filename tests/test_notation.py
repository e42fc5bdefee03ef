"""[100] notation, with [2], [3] and [4]."""

import unittest

from earlyorlate.books import Book
from earlyorlate.notation import show_book, show_kinds, show_times
from earlyorlate.readers import read_book, read_kinds, read_times
from tests.checks import check_passed_stays
from tests.helper import FAR
from tests.oracle import all_kinds, mixed_books, planted_books

E, L = "early", "late"


def written(book):
    """The text of a book, as the document has it."""
    lines = [("events", book.events), ("witnesses", book.witnesses)]
    lines += [("tell",) + item for item in book.tellings]
    lines += [("gap",) + item for item in book.gaps]
    lines += [(side, e, x) for e, side, x in book.sure]
    for w, kind, v, other in book.clauses:
        lines.append(("known", w, kind) if (w, kind) == (v, other) else ("clause", w, kind, v, other))
    return "\n".join(" ".join(str(word) for word in line) for line in lines)


class BookTest(unittest.TestCase):
    def test_no_items(self):
        for events in (0, 1, 8):
            for witnesses in (0, 1, 8):
                self.assertEqual(show_book(Book(events, witnesses)), f"events {events}\nwitnesses {witnesses}")

    def test_each_item(self):
        book = Book(3, 2, [(0, 2, 5), (1, 0, -5), (0, 2, 5)], [(0, 1, 0), (2, 0, -10)], [(1, "most", 7), (0, "least", -7)],
                    [(0, E, 1, L), (1, L, 1, L), (0, E, 0, L), (1, E, 0, E), (0, E, 0, E)])
        self.assertEqual(show_book(book).split("\n"), [
            "events 3", "witnesses 2", "tell 0 2 5", "tell 1 0 -5", "tell 0 2 5", "gap 0 1 0", "gap 2 0 -10", "most 1 7",
            "least 0 -7", "clause 0 early 1 late", "known 1 late", "clause 0 early 0 late", "clause 1 early 0 early",
            "known 0 early"])

    def test_great_numbers(self):
        self.assertEqual(show_book(Book(1, 1, [(0, 0, 10 ** 12)], [], [(0, "least", -10 ** 12)])),
                         "events 1\nwitnesses 1\ntell 0 0 1000000000000\nleast 0 -1000000000000")
        self.assertEqual(show_book(Book(1, 1, [(0, 0, -FAR)])), "events 1\nwitnesses 1\ntell 0 0 -1000000000000000")

    def test_books_as_they_come(self):
        for book in mixed_books("show", 80, events=(0, 8), witnesses=(0, 8), items=(0, 20), numbers=(-10 ** 12, 10 ** 12)) + (
                planted_books("show", 3)):
            text = show_book(book)
            self.assertIs(text.__class__, str)
            self.assertEqual(text, written(book))
            found = read_book(text)
            self.assertIs(found.__class__, Book)
            self.assertEqual(found, book)
            self.assertEqual(show_book(found), text)

    def test_full_parts(self):
        book = Book(2, 2, [(0, 0, 5)] * 24, [(0, 1, 5)] * 24, [(0, "least", 5)] * 24, [(0, E, 1, L)] * 24)
        self.assertEqual(show_book(book), written(book))

    def test_the_book_stays(self):
        check_passed_stays(self, show_book, Book(2, 2, [(0, 0, 5)], [(0, 1, 5)], [(0, "least", 5)], [(0, E, 1, L)]))


class RowsTest(unittest.TestCase):
    def test_kinds(self):
        self.assertEqual([show_kinds(kinds) for kinds in ((), (E,), (L,), (E, L), (L, L, E))],
                         ["none", "early", "late", "early late", "late late early"])
        for kinds in all_kinds(Book(0, 5)) + [(E, L) * 4]:
            self.assertEqual(show_kinds(kinds), " ".join(kinds))
            self.assertEqual(read_kinds(show_kinds(kinds)), kinds)

    def test_times(self):
        self.assertEqual([show_times(times) for times in ((), (0,), (-1,), (10, 0, -20), (1, 2, 3))],
                         ["none", "0", "-1", "10 0 -20", "1 2 3"])
        for times in ((), (0,) * 8, (10 ** 12, -10 ** 12), (10 ** 40 - 1, 1 - 10 ** 40), tuple(range(-40, 40))):
            self.assertEqual(show_times(times), " ".join(str(time) for time in times) or "none")
            self.assertEqual(read_times(show_times(times)), times)

    def test_greater_times_than_can_be_read(self):
        self.assertEqual(show_times((10 ** 50, -10 ** 50)), "1" + "0" * 50 + " -1" + "0" * 50)


if __name__ == "__main__":
    unittest.main()
