"""[91] needless, with [2], [3], [4], [10], [11] and [12]."""

import unittest
from itertools import combinations

from earlyorlate.books import Book
from earlyorlate.compared import alike, implies
from earlyorlate.errors import NoFit
from earlyorlate.fits import explained, has_fit
from earlyorlate.needless import is_least_book, least_book, needless
from earlyorlate.reasons import reason
from tests.checks import check_passed_stays, check_quick, check_unchanged, unfit_books
from tests.helper import NEITHER, SameAsAll
from tests.oracle import mixed_books, planted_books, some_fit
from tests.saying import PARTS, explanations, is_said, items_of, made

E, L = "early", "late"
GREAT = 10 ** 12


def places_of(book):
    return [(sort, at) for sort in PARTS for at in range(len(getattr(book, sort)))]


def without(book, place):
    """The book without the item at this place of items_of."""
    items = items_of(book)
    return made(book, items[:place] + items[place + 1:])


def true_needless(book):
    """What needless returns: what is said by all others."""
    return [place for at, place in enumerate(places_of(book)) if is_said(without(book, at), *items_of(book)[at])]


def are_some_of(some, items):
    """Whether some are left of these items if others are taken out."""
    return any(list(some) == list(kept) for kept in combinations(items, len(some)))


def is_right(book, thing):
    """Whether a Book is a least book of another one, with few items."""
    return ((thing.events, thing.witnesses) == (book.events, book.witnesses)
            and all(are_some_of(getattr(thing, sort), getattr(book, sort)) for sort in PARTS)
            and all(is_said(thing, *some) for some in items_of(book)) and not true_needless(thing))


def needy_books(seed, many):
    """Books some of whose items are said twice, or a little weaker."""
    found = []
    books = mixed_books(seed, many, events=(1, 3), witnesses=(0, 3), items=(0, 4), numbers=(-2, 2), gaps=(-3, 1))
    for at, book in enumerate(books):
        items = items_of(book)
        found.append(made(book, items + items[at % 3::3]))
    return found


class NeedlessTest(unittest.TestCase):
    def check_book(self, book, judged=is_right):
        """Check all of a book; return how many items are needless."""
        found = needless(book)
        self.assertEqual(found, true_needless(book))
        self.assertEqual([found.__class__] + [some.__class__ for some in found], [list] + [tuple] * len(found))
        least = least_book(book)
        self.assertIs(least.__class__, Book)
        self.assertTrue(judged(book, least), (items_of(book), items_of(least)))
        self.assertIs(is_least_book(book, least), True)
        self.assertIs(is_least_book(book, book), not found)
        self.assertEqual(needless(least), [])
        self.assertIs(alike(book, least), True)
        return len(found)


class FewTest(NeedlessTest):
    def check_found(self, book, found, least):
        self.assertEqual(needless(book), found)
        self.assertIn(items_of(least_book(book)), least)
        self.check_book(book)

    def test_nothing_said(self):
        for book in (Book(0, 0), Book(8, 0), Book(0, 8), Book(8, 8)):
            self.check_found(book, [], [[]])

    def test_two_equal_items(self):
        for sort, item in (("tellings", (0, 1, 5)), ("gaps", (0, 1, 5)), ("sure", (1, "most", 5)),
                           ("clauses", (0, E, 1, L)), ("clauses", (0, E, 0, E))):
            for many in (1, 2, 3, 20):
                book = made(Book(2, 2), [(sort, item)] * many)
                self.check_found(book, [(sort, at) for at in range(many)] if many > 1 else [], [[(sort, item)]])

    def test_items_a_little_weaker(self):
        bound, weaker = ("sure", (0, "least", 5)), ("sure", (0, "least", 4))
        self.check_found(made(Book(2, 1), [weaker, bound]), [("sure", 0)], [[bound]])
        self.check_found(made(Book(2, 1), [bound, weaker, weaker]), [("sure", 1), ("sure", 2)], [[bound]])
        gap, less = ("gaps", (0, 1, 5)), ("gaps", (0, 1, 4))
        self.check_found(made(Book(2, 1), [less, gap, bound]), [("gaps", 0)], [[gap, bound]])
        self.check_found(made(Book(2, 1), [gap, bound, ("sure", (1, "least", 10))]), [("sure", 1)], [[gap, bound]])
        self.check_found(made(Book(2, 1), [gap, bound, ("sure", (1, "least", 11))]), [], [[gap, bound, ("sure", (1, "least", 11))]])

    def test_tellings_of_one_witness(self):
        # Of one who tells several times, those between matter to nobody's kind, but to the time.
        told = [("tellings", (0, 0, x)) for x in (3, 5, 9)]
        self.check_found(made(Book(1, 1), told), [("tellings", 1)], [[told[0], told[2]]])
        known = ("clauses", (0, E, 0, E))
        self.check_found(made(Book(1, 1), told + [known]), [("tellings", 0), ("tellings", 1)], [[told[2], known]])

    def test_ways_round(self):
        gaps = [("gaps", gap) for gap in ((0, 1, 2), (1, 2, 3), (0, 2, 5))]
        self.check_found(made(Book(3, 0), gaps), [("gaps", 2)], [gaps[:2]])
        self.check_found(made(Book(3, 0), gaps[:2] + [("gaps", (0, 2, 6))]), [], [gaps[:2] + [("gaps", (0, 2, 6))]])
        both = [("gaps", (0, 1, 2)), ("gaps", (1, 0, -2))]
        bounds = [("sure", (0, "least", 3)), ("sure", (1, "least", 5))]
        self.check_found(made(Book(2, 0), both + bounds), [("sure", 0), ("sure", 1)], [both + bounds[:1], both + bounds[1:]])

    def test_clauses(self):
        one, two, three = ("clauses", (0, L, 1, E)), ("clauses", (1, L, 2, E)), ("clauses", (0, L, 2, E))
        self.check_found(made(Book(0, 3), [one, two, three]), [("clauses", 2)], [[one, two]])
        always = ("clauses", (0, E, 0, L))
        self.check_found(made(Book(0, 3), [always, one]), [("clauses", 0)], [[one]])
        self.check_found(made(Book(0, 3), [one, ("clauses", (1, E, 0, L))]), [("clauses", 0), ("clauses", 1)],
                         [[one], [("clauses", (1, E, 0, L))]])
        known = ("clauses", (1, E, 1, E))
        self.check_found(made(Book(0, 3), [one, known]), [("clauses", 0)], [[known]])

    def test_items_of_all_parts_in_order(self):
        book = Book(2, 2, [(0, 0, 5), (0, 0, 5), (1, 1, 9)], [(0, 1, 1), (0, 1, 2)], [(0, "least", 1), (0, "least", 2)],
                    [(1, L, 1, E), (0, E, 1, E), (1, E, 0, E)])
        self.check_found(book, [("tellings", 0), ("tellings", 1), ("gaps", 0), ("sure", 0), ("clauses", 0), ("clauses", 1),
                                ("clauses", 2)],
                         [items_of(Book(2, 2, [(0, 0, 5), (1, 1, 9)], [(0, 1, 2)], [(0, "least", 2)], [clause]))
                          for clause in ((0, E, 1, E), (1, E, 0, E))])

    def test_books_without_an_explanation(self):
        for book in unfit_books():
            self.check_book(book)
            least = least_book(book)
            self.assertIs(has_fit(least), False)
            self.assertTrue(all(some_fit(without(least, at)) for at in range(len(items_of(least)))))
        two = Book(1, 1, [(0, 0, 3)], [], [(0, "least", 3), (0, "most", 2)], [(0, E, 0, E), (0, L, 0, L)])
        self.check_found(two, [(sort, at) for sort, at in places_of(two)],
                         [[("sure", (0, "least", 3)), ("sure", (0, "most", 2))],
                          [("clauses", (0, E, 0, E)), ("clauses", (0, L, 0, L))],
                          [("tellings", (0, 0, 3)), ("sure", (0, "most", 2)), ("clauses", (0, E, 0, E))]])

    def test_great_numbers(self):
        gaps = [(a, a + 1, GREAT) for a in range(7)]
        book = Book(8, 1, [(0, 0, GREAT), (0, 7, GREAT)], gaps + [(0, 2, GREAT)], [], [(0, E, 0, E)])
        self.check_found(book, [("tellings", 1), ("gaps", 7)], [items_of(Book(8, 1, [(0, 0, GREAT)], gaps, [], [(0, E, 0, E)]))])


class BooksTest(NeedlessTest):
    def test_small_books_against_all_kinds_and_times(self):
        some = 0
        for book in mixed_books("needless", 50, events=(0, 2), witnesses=(0, 2), items=(0, 3), numbers=(-2, 2)):
            reached = explanations(book, 8)
            found = [place for at, place in enumerate(places_of(book)) if explanations(without(book, at), 8) == reached]
            self.assertEqual(needless(book), found)
            self.assertEqual(explanations(least_book(book), 8), reached)
            some += 0 < len(found) < len(items_of(book))
        self.assertGreater(some, 10)

    def test_books_as_they_come(self):
        found = {"some": 0, "none": 0, "unfit": 0, "less": 0}
        for book in needy_books("needless", 110):
            many = self.check_book(book)
            found["some"] += many > 0
            found["none"] += many == 0
            found["unfit"] += not has_fit(book)
            found["less"] += len(items_of(book)) - len(items_of(least_book(book))) < many
        self.assertTrue(all(many > 8 for many in found.values()), found)

    def test_turned_moved_and_renamed(self):
        for book in needy_books("needless turned", 40):
            found = needless(book)
            self.assertEqual(needless(book.turned()), found)
            self.assertEqual(needless(book.moved(7)), found)
            events, witnesses = [list(range(1, many)) + [0] * (many > 0) for many in (book.events, book.witnesses)]
            self.assertEqual(needless(book.renamed(events, witnesses)), found)

    def test_great_books_in_good_time(self):
        crowd = Book(8, 8, [(at % 8, at // 3, at) for at in range(20)], [(at % 8, (at + 1) % 8, -90) for at in range(20)],
                     [(at % 8, "least", -at) for at in range(20)], [(at % 8, E, at // 3, L) for at in range(20)])
        for book in planted_books("needless", 2) + planted_books("needless too", 1, slack=300) + [crowd]:
            found = check_quick(self, 2, needless, book)
            least = check_quick(self, 2, least_book, book)
            self.assertIs(check_quick(self, 2, is_least_book, book, least), True)
            self.assertIs(check_quick(self, 2, is_least_book, book, book), False)
            self.assertEqual([implies(least, book), needless(least)], [True, []])
            for at, place in list(enumerate(places_of(book)))[::9]:
                self.assertIs(place in found, is_said(without(book, at), *items_of(book)[at]))

    def test_what_is_passed_stays(self):
        book = Book(2, 2, [(0, 0, 5), (0, 0, 5)], [(0, 1, 1), (0, 1, 2)], [(0, "least", 1)], [(1, L, 1, E)])
        check_unchanged(self, book, needless, lambda some: is_least_book(some, least_book(some)))
        check_passed_stays(self, least_book, book)
        check_passed_stays(self, is_least_book, book, least_book(book))


class IsLeastBookTest(unittest.TestCase):
    book = Book(2, 2, [(0, 0, 5), (0, 0, 5), (1, 1, 9)], [(0, 1, 1), (0, 1, 2), (0, 1, 2)], [(0, "least", 2)],
                [(1, L, 1, E), (0, E, 1, E), (1, E, 0, E)])

    def check_things(self, book, things, right):
        for thing in things:
            self.assertIs(is_least_book(book, thing), right, thing)

    def least(self, **parts):
        """A least book of this one, with these parts in the place of its own."""
        own = {"tellings": [(0, 0, 5), (1, 1, 9)], "gaps": [(0, 1, 2)], "sure": [(0, "least", 2)], "clauses": [(0, E, 1, E)]}
        own.update(parts)
        return Book(2, 2, *[own[sort] for sort in PARTS])

    def test_others_than_the_one_told(self):
        self.check_things(self.book, [self.least(), self.least(clauses=[(1, E, 0, E)])], True)

    def test_other_items(self):
        self.check_things(self.book, [
            self.book, Book(2, 2), self.least(tellings=[(1, 1, 9), (0, 0, 5)]), self.least(tellings=[(0, 0, 5)]),
            self.least(tellings=[(0, 0, 5), (0, 0, 5), (1, 1, 9)]), self.least(gaps=[(0, 1, 1)]), self.least(gaps=[]),
            self.least(gaps=[(0, 1, 1), (0, 1, 2)]), self.least(gaps=[(0, 1, 3)]), self.least(sure=[(0, "least", 3)]),
            self.least(sure=[]), self.least(sure=[(1, "least", 4), (0, "least", 2)]), self.least(clauses=[]),
            self.least(clauses=[(0, E, 1, E), (1, E, 0, E)]), self.least(clauses=[(1, L, 1, E), (0, E, 1, E)]),
            self.least(tellings=[(0, 0, 5), (1, 1, 8)])], False)

    def test_the_same_said_by_items_that_it_has_not(self):
        book = Book(2, 0, [], [(0, 1, 2), (1, 0, -2)], [(0, "least", 3)])
        self.check_things(book, [book], True)
        self.check_things(book, [Book(2, 0, [], [(0, 1, 2), (1, 0, -2)], [(1, "least", 5)]),
                                 Book(2, 0, [], [(1, 0, -2), (0, 1, 2)], [(0, "least", 3)])], False)

    def test_items_in_another_order(self):
        book = Book(1, 2, [(0, 0, 5), (1, 0, 6), (0, 0, 5)])
        self.check_things(book, [Book(1, 2, [(0, 0, 5), (1, 0, 6)]), Book(1, 2, [(1, 0, 6), (0, 0, 5)])], True)
        book = Book(1, 2, [(0, 0, 5), (0, 0, 5), (1, 0, 6)])
        self.check_things(book, [Book(1, 2, [(0, 0, 5), (1, 0, 6)])], True)
        self.check_things(book, [Book(1, 2, [(1, 0, 6), (0, 0, 5)])], False)

    def test_other_sizes(self):
        self.check_things(Book(2, 2), [Book(2, 2)], True)
        self.check_things(Book(2, 2), [Book(2, 3), Book(3, 2), Book(1, 2), Book(2, 1), Book(0, 0), Book(8, 8)], False)
        least = self.least()
        self.check_things(self.book, [Book(3, 2, least.tellings, least.gaps, least.sure, least.clauses),
                                      Book(2, 3, least.tellings, least.gaps, least.sure, least.clauses)], False)

    def test_books_without_an_explanation(self):
        two = Book(1, 1, [], [], [(0, "least", 3), (0, "most", 2)], [(0, E, 0, E), (0, L, 0, L)])
        self.check_things(two, [Book(1, 1, [], [], two.sure), Book(1, 1, [], [], [], two.clauses)], True)
        self.check_things(two, [two, Book(1, 1), Book(1, 1, [], [], two.sure[:1]), Book(1, 1, [], [], two.sure[::-1]),
                                Book(1, 1, [], [], two.sure, two.clauses[:1]), unfit_books()[0]], False)

    def test_other_values(self):
        least = self.least()
        self.check_things(self.book, NEITHER + [
            SameAsAll(), 0, (), [], "", items_of(least), [least], (least,), {least.events: least},
            (2, 2, least.tellings, least.gaps, least.sure, least.clauses), needless(self.book), NoFit(0),
            explained(self.book), reason(unfit_books()[0])], False)

    def test_all_books_of_some_of_the_items(self):
        right = 0
        for book in needy_books("is least", 25):
            items = items_of(book)
            if len(items) <= 6:
                for many in range(len(items) + 1):
                    for kept in combinations(items, many):
                        thing = made(book, kept)
                        self.assertIs(is_least_book(book, thing), is_right(book, thing))
                        right += is_right(book, thing)
        self.assertGreater(right, 12)


class ExamplesTest(unittest.TestCase):
    def test_examples_of_the_document(self):
        twice = Book(2, 0, [], [(0, 1, 4), (0, 1, 3), (0, 1, 4)])
        self.assertEqual([needless(twice), least_book(twice).gaps, is_least_book(twice, twice)],
                         [[("gaps", 0), ("gaps", 1), ("gaps", 2)], ((0, 1, 4),), False])


if __name__ == "__main__":
    unittest.main()
