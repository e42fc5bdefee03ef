"""[92] asks, with [2], [3], [4] and [11]."""

import unittest
from functools import lru_cache
from itertools import product

from earlyorlate.asks import (agreeing, ask_table, best_ask, depth, is_ask_table, is_plan, open_witnesses, plan,
                              questions)
from earlyorlate.books import Book
from earlyorlate.counted import count_fits
from earlyorlate.errors import NoFit
from earlyorlate.reasons import reason
from tests.checks import check_no_fit, check_passed_stays, check_quick, check_unchanged, unfit_books
from tests.helper import KINDS, NEITHER, SameAsAll
from tests.oracle import altered, mixed_books, planted_books, rows_of

E, L = "early", "late"
TURN = {"early": "late", "late": "early", None: None}


def agree(row, stand):
    return all(told in (None, kind) for told, kind in zip(stand, row))


def split(rows, w):
    """Those of these kinds in which a witness is early, and the rest."""
    return tuple(row for row in rows if row[w] == E), tuple(row for row in rows if row[w] == L)


def true_open(rows, witnesses):
    return [w for w in range(witnesses) if all(split(rows, w))]


@lru_cache(maxsize=None)
def fewest(rows, witnesses):
    """How many questions are needed for some kinds."""
    return 0 if len(rows) == 1 else 1 + min(max(fewest(part, witnesses) for part in split(rows, w))
                                            for w in true_open(rows, witnesses))


def true_table(rows, witnesses):
    """The table, by its words: from all stands that can be."""
    found = {}
    for stand in product((None, E, L), repeat=witnesses):
        some = tuple(row for row in rows if agree(row, stand))
        if some:
            found[stand] = fewest(some, witnesses)
    return found


def is_right_plan(rows, witnesses, thing):
    """Whether a value is a plan for some kinds."""
    if thing.__class__ is not tuple:
        return False
    if len(rows) == 1:
        return repr(thing) == repr(("known", rows[0]))
    if len(thing) != 3 or thing[0].__class__ is not int or thing[0] not in true_open(rows, witnesses):
        return False
    return all(is_right_plan(part, witnesses, some) for part, some in zip(split(rows, thing[0]), thing[1:]))


def true_depth(some):
    return 0 if some[0] == "known" else 1 + max(true_depth(some[1]), true_depth(some[2]))


def ask_books(seed, many, witnesses=(0, 5)):
    """Books with an explanation."""
    books = mixed_books(seed, many, events=(0, 3), witnesses=witnesses, items=(0, 5), numbers=(-3, 3), gaps=(-6, 0),
                        clauses=(0, 4))
    return [book for book in books if rows_of(book)]


class AsksTest(unittest.TestCase):
    def check_stand(self, book, rows, stand):
        some = [row for row in rows if agree(row, stand)]
        self.assertEqual(agreeing(book, stand), some)
        free = true_open(some, book.witnesses)
        self.assertEqual(open_witnesses(book, stand), free)
        worst = [max(len(part) for part in split(some, w)) for w in free]
        self.assertEqual(best_ask(book, stand), free[worst.index(min(worst))] if free else None)

    def check_plan(self, book, rows, least):
        found = plan(book)
        self.assertTrue(is_right_plan(rows, book.witnesses, found), found)
        self.assertIs(is_plan(book, found), True)
        self.assertEqual([depth(found), true_depth(found), questions(book)], [least] * 3)

    def check_book(self, book, stands=None):
        """Check all of a book by going through all kinds; return how many questions are needed."""
        rows = tuple(rows_of(book))
        table = true_table(rows, book.witnesses)
        found = ask_table(book)
        self.assertIs(found.__class__, dict)
        self.assertEqual(found, table)
        self.assertEqual({worth.__class__ for worth in found.values()}, {int})
        self.assertIs(is_ask_table(book, found), True)
        for stand in list(table) if stands is None else stands:
            self.check_stand(book, rows, stand)
        least = table[(None,) * book.witnesses]
        self.check_plan(book, rows, least)
        return least


class FewTest(AsksTest):
    def test_nobody(self):
        for book in (Book(0, 0), Book(8, 0), Book(1, 0, [], [], [(0, "least", 3)])):
            self.assertEqual([agreeing(book, ()), open_witnesses(book, ()), best_ask(book, ()), plan(book), questions(book),
                              ask_table(book)], [[()], [], None, ("known", ()), 0, {(): 0}])
            self.check_book(book)

    def test_nothing_known(self):
        for many in range(1, 7):
            self.assertEqual(self.check_book(Book(many % 3, many), [(None,) * many, (None,) * (many - 1) + (E,)]), many)

    def test_all_known(self):
        book = Book(1, 3, [], [], [], [(0, E, 0, E), (1, L, 1, L), (0, L, 2, E)])
        self.assertEqual(plan(book), ("known", (E, L, E)))
        self.assertEqual(self.check_book(book), 0)
        self.assertEqual(len(ask_table(book)), 8)

    def test_rows_of_tellings(self):
        # Nobody who is early told more than one who is late, so of many who told, one half is left each time.
        for many, least in ((1, 1), (2, 2), (3, 2), (4, 3), (5, 3), (6, 3)):
            book = Book(1, many, [(w, 0, 5 + 2 * w) for w in range(many)])
            self.assertEqual([self.check_book(book), count_fits(book)], [least, many + 1])
        self.assertEqual([plan(book)[0], best_ask(book, (None,) * 6)], [2, 2])

    def test_one_among_many(self):
        # One at most is late: each must be asked, but all others are known as soon as this one is.
        clauses = [(w, E, v, E) for w in range(5) for v in range(w)]
        book = Book(0, 5, [], [], [], clauses)
        self.assertEqual([self.check_book(book), count_fits(book)], [5, 6])
        self.assertEqual(best_ask(book, (None,) * 5), 0)
        self.assertEqual(best_ask(book, (E, None, None, None, None)), 1)
        self.assertEqual(open_witnesses(book, (None, L, None, None, None)), [])

    def test_the_best_ask_is_not_always_the_least(self):
        book = Book(0, 3, [], [], [], [(0, E, 1, E), (0, E, 2, E)])
        self.check_book(book)
        self.assertEqual(best_ask(book, (None, None, None)), 1)
        self.assertEqual(best_ask(book.renamed([], [2, 1, 0]), (None, None, None)), 0)

    def test_stands_that_tell_what_is_known(self):
        book = Book(0, 3, [], [], [], [(0, L, 1, E), (1, L, 0, E)])
        self.assertEqual([ask_table(book)[stand] for stand in ((None, None, None), (E, None, None), (E, E, None), (E, E, L))],
                         [2, 1, 1, 0])
        self.assertNotIn((E, L, None), ask_table(book))
        self.check_book(book)


class BooksTest(AsksTest):
    def test_books_as_they_come(self):
        found = set()
        for book in ask_books("asks", 130):
            found.add((book.witnesses, self.check_book(book)))
        self.assertGreater(len(found), 10)

    def test_fewer_questions_than_the_best_ask_leads_to(self):
        # Asking for the greatest parts is not always best in the end; the plan is no deeper than it all the same.
        for book in ask_books("greedy", 60, witnesses=(3, 6)):
            stand = (None,) * book.witnesses
            self.assertLessEqual(questions(book), self.greedy(book, stand))

    def greedy(self, book, stand):
        w = best_ask(book, stand)
        if w is None:
            return 0
        return 1 + max(self.greedy(book, stand[:w] + (kind,) + stand[w + 1:]) for kind in KINDS)

    def test_six_witnesses(self):
        found = set()
        for book in ask_books("six", 40, witnesses=(6, 6)):
            found.add(self.check_book(book, [(None,) * 6, agreeing(book, (None,) * 6)[0][:3] + (None,) * 3]))
        self.assertGreater(len(found), 2)

    def test_time_turned(self):
        for book in ask_books("asks turned", 50, witnesses=(1, 4)):
            self.assertEqual(questions(book.turned()), questions(book))
            turned = {tuple(TURN[kind] for kind in stand): worth for stand, worth in ask_table(book).items()}
            self.assertEqual(ask_table(book.turned()), turned)
            stand = (None,) * book.witnesses
            self.assertEqual(best_ask(book.turned(), stand), best_ask(book, stand))

    def test_great_books_in_good_time(self):
        for book in planted_books("asks", 2, slack=40) + planted_books("asks too", 2, slack=300) + [Book(8, 8)]:
            tellings = [item for item in book.tellings if item[0] < 6]
            book = Book(8, 6, tellings, book.gaps, book.sure, [some for some in book.clauses if max(some[::2]) < 6][:7])
            stand = (None,) * 6
            for call in (agreeing, open_witnesses, best_ask):
                check_quick(self, 2, call, book, stand)
            found = check_quick(self, 2, plan, book)
            self.assertIs(check_quick(self, 2, is_plan, book, found), True)
            table = check_quick(self, 2, ask_table, book)
            self.assertIs(check_quick(self, 2, is_ask_table, book, table), True)
            self.assertEqual([depth(found), check_quick(self, 2, questions, book)], [table[stand]] * 2)

    def test_what_is_passed_stays(self):
        book = Book(1, 3, [(0, 0, 5), (1, 0, 7), (2, 0, 9)])
        stand = (None, L, None)
        check_unchanged(self, book, plan, questions, ask_table, lambda some: agreeing(some, stand),
                        lambda some: open_witnesses(some, stand), lambda some: best_ask(some, stand))
        check_passed_stays(self, is_plan, book, plan(book))
        check_passed_stays(self, is_ask_table, book, ask_table(book))
        check_passed_stays(self, depth, plan(book))


class IsPlanTest(unittest.TestCase):
    three = Book(1, 3, [(0, 0, 5), (1, 0, 7), (2, 0, 9)])

    def check_things(self, book, things, is_right):
        for thing in things:
            self.assertIs(is_plan(book, thing), is_right, thing)

    def test_what_fits(self):
        self.assertEqual(rows_of(self.three), [(E, E, E), (E, E, L), (E, L, L), (L, L, L)])

    def known(self, word):
        """The leaf with the kinds of which these are the first letters."""
        return ("known", tuple({"e": E, "l": L}[letter] for letter in word))

    def test_plans_of_any_depth(self):
        k = self.known
        short = (1, (2, k("eee"), k("eel")), (0, k("ell"), k("lll")))
        long = (0, (1, (2, k("eee"), k("eel")), k("ell")), k("lll"))
        other = (2, k("eee"), (1, k("eel"), (0, k("ell"), k("lll"))))
        self.check_things(self.three, [short, long, other], True)
        self.assertEqual([depth(short), depth(long), depth(other), depth(k("eee"))], [2, 3, 3, 0])
        self.check_things(self.three, [
            (0, (2, k("eee"), (1, k("eel"), k("ell"))), k("lll")), (2, k("eee"), (0, (1, k("eel"), k("ell")), k("lll")))], True)

    def test_other_witnesses_and_parts_exchanged(self):
        k = self.known
        self.check_things(self.three, [
            (0, (2, k("eee"), k("eel")), (0, k("ell"), k("lll"))), (1, (0, k("eee"), k("eel")), (0, k("ell"), k("lll"))),
            (1, (1, k("eee"), k("eel")), (0, k("ell"), k("lll"))), (1, (2, k("eel"), k("eee")), (0, k("ell"), k("lll"))),
            (1, (0, k("ell"), k("lll")), (2, k("eee"), k("eel"))), (1, (2, k("eee"), k("eel")), (0, k("lll"), k("ell"))),
            (3, (2, k("eee"), k("eel")), (0, k("ell"), k("lll"))), (-1, (2, k("eee"), k("eel")), (0, k("ell"), k("lll"))),
            (-2, (2, k("eee"), k("eel")), (0, k("ell"), k("lll")))], False)

    def test_leaves_too_early_or_too_late(self):
        k = self.known
        self.check_things(self.three, [
            k("eee"), (1, k("eee"), (0, k("ell"), k("lll"))), (1, k("eel"), k("ell")), (1, (2, k("eee"), k("eel")), k("ell")),
            (1, (2, (0, k("eee"), k("lee")), k("eel")), (0, k("ell"), k("lll"))),
            (1, (2, (0, k("eee"), k("eee")), k("eel")), (0, k("ell"), k("lll"))),
            (1, (0, (2, k("eee"), k("eel")), k("lee")), (0, k("ell"), k("lll")))], False)

    def test_other_kinds(self):
        k = self.known
        for kinds in ((E, E), (E, E, E, E), (E, E, L), (L, E, E), [E, E, E], "early early early", None, (E, E, None),
                      (E, E, SameAsAll()), SameAsAll(), (), ((E, E, E),), (E, E, b"early")):
            self.check_things(self.three, [(1, (2, ("known", kinds), k("eel")), (0, k("ell"), k("lll")))], False)
        for leaf in (("known",), ("known", (E, E, E), 0), ["known", (E, E, E)], ("Known", (E, E, E)), ((E, E, E), "known"),
                     (E, E, E), ("fits", (E, E, E)), None, (SameAsAll(), (E, E, E)), SameAsAll()):
            self.check_things(self.three, [(1, (2, leaf, k("eel")), (0, k("ell"), k("lll")))], False)

    def test_truths(self):
        k = self.known
        self.check_things(self.three, [(True, (2, k("eee"), k("eel")), (0, k("ell"), k("lll"))),
                                       (1, (2, k("eee"), k("eel")), (False, k("ell"), k("lll")))], False)

    def test_what_was_told_with_a_part_altered(self):
        many = 0
        for book in ask_books("altered plans", 40, witnesses=(0, 4)):
            rows = tuple(rows_of(book))
            found = plan(book)
            for thing in altered(found):
                self.check_things(book, [thing], is_right_plan(rows, book.witnesses, thing))
                many += 1
        self.assertGreater(many, 3000)

    def test_other_values(self):
        for book in (self.three, Book(0, 0), Book(1, 1, [], [], [], [(0, E, 0, E)])):
            self.check_things(book, NEITHER + [SameAsAll(), 0, 1, (), [], (0,), (0, 1), (0, 1, 2), (0, (), ()), (0, None, None),
                                               (0, 0, 0), ("known", ()) if book.witnesses else ("known", (E,)), ("known",),
                                               list(plan(book)), [plan(book)], (plan(book),), {plan(book): 0}, "known",
                                               ask_table(book), NoFit(0), book, reason(unfit_books()[0])], False)


class IsTableTest(unittest.TestCase):
    three = Book(1, 3, [(0, 0, 5), (1, 0, 7), (2, 0, 9)])

    def check_things(self, book, things, is_right):
        for thing in things:
            self.assertIs(is_ask_table(book, thing), is_right, thing)

    def with_worth(self, table, stand, worth):
        return {some: worth if some == stand else own for some, own in table.items()}

    def test_the_order_of_keys_means_nothing(self):
        for book in ask_books("order of keys", 20):
            table = ask_table(book)
            turned = {stand: table[stand] for stand in list(table)[::-1]}
            by_name = {stand: table[stand] for stand in sorted(table, key=repr)}
            self.check_things(book, [table, turned, by_name, dict(table)], True)

    def test_stands_out_or_more(self):
        for book in ask_books("stands", 12, witnesses=(1, 3)) + [self.three]:
            table = ask_table(book)
            for out in table:
                self.check_things(book, [{stand: worth for stand, worth in table.items() if stand != out}], False)
            others = [stand for stand in product((None, E, L), repeat=book.witnesses) if stand not in table]
            for more in others + [(), (None,) * (book.witnesses + 1), None, 0, "early", (E, 0), ("Early",) * book.witnesses]:
                for worth in (0, 1, None):
                    self.check_things(book, [{**table, more: worth}], False)
                out = list(table)[0]
                self.check_things(book, [{more if stand == out else stand: worth for stand, worth in table.items()}], False)

    def test_numbers_otherwise(self):
        for book in ask_books("numbers", 10, witnesses=(1, 3)) + [self.three]:
            table = ask_table(book)
            for stand, worth in table.items():
                things = [worth + 1, worth - 1, -worth - 1, None, str(worth), (worth,), [worth], SameAsAll(), 10 ** 30, {}]
                things += [bool(worth)] if worth in (0, 1) else []
                self.check_things(book, [self.with_worth(table, stand, thing) for thing in things], False)

    def test_truths(self):
        book = Book(1, 1)
        self.assertEqual(ask_table(book), {(None,): 1, (E,): 0, (L,): 0})
        self.check_things(book, [{(None,): True, (E,): 0, (L,): 0}, {(None,): 1, (E,): False, (L,): 0},
                                 {(None,): 1, (E,): 0, (L,): False}, {(False,): 1, (E,): 0, (L,): 0}], False)

    def test_one_more_everywhere(self):
        # The rule alone, without the 0 of those that are settled, is not enough.
        table = ask_table(self.three)
        self.check_things(self.three, [{stand: worth + 1 for stand, worth in table.items()}], False)

    def test_other_values(self):
        table = ask_table(self.three)
        self.check_things(self.three, NEITHER + [
            SameAsAll(), 0, (), [], "", list(table), list(table.items()), tuple(table.items()), [table], (table,),
            {0: table}, set(table), {worth: stand for stand, worth in table.items()}, plan(self.three), NoFit(0), self.three,
            {stand: 0 for stand in table}, {stand[::-1]: worth for stand, worth in table.items()}], False)
        self.check_things(Book(0, 0), [{(): 0}], True)
        self.check_things(Book(0, 0), [{}, {(): 1}, {(): False}, {(): None}, {((),): 0}, {None: 0}, {(): 0, 0: 0}], False)


class ErrorsTest(unittest.TestCase):
    def test_no_fit(self):
        for book in unfit_books():
            for call in (plan, questions, ask_table):
                check_no_fit(self, book, call)
            for stand in ((None, None), (E, L)):
                for call in (agreeing, open_witnesses, best_ask):
                    check_no_fit(self, book, call, stand)
            for thing in (None, (), {}, ("known", (E, E)), (0, ("known", (E, E)), ("known", (L, L))), {(None, None): 0}):
                check_no_fit(self, book, is_plan, thing)
                check_no_fit(self, book, is_ask_table, thing)


class ExamplesTest(unittest.TestCase):
    def test_examples_of_the_document(self):
        three = Book(1, 3, [(0, 0, 5), (1, 0, 7), (2, 0, 9)])
        self.assertEqual([questions(three), best_ask(three, (None, None, None)), open_witnesses(three, (None, "late", None)),
                          depth(plan(three))],
                         [2, 1, [0], 2])


if __name__ == "__main__":
    unittest.main()
