"""The guarantees [5] to [12] over the whole program, on drawn small books."""

import unittest
from itertools import permutations, product
from random import Random

from earlyorlate.aside import aside_for, clashes, is_aside, repairs
from earlyorlate.asks import ask_table, plan, questions
from earlyorlate.books import Book
from earlyorlate.clocks import shift_stretch
from earlyorlate.compared import alike, contraries, implies, parting, whys
from earlyorlate.counted import Fits, count_fits, early_counts
from earlyorlate.desk import Desk
from earlyorlate.errors import NoFit, NoHelp
from earlyorlate.fits import explained, fits, has_fit, is_explanation
from earlyorlate.lattice import fewest_early, joined, median, met, most_early
from earlyorlate.needless import least_book, needless
from earlyorlate.news import early_to, late_from, word_of
from earlyorlate.orders import sure_gap, sure_order, sure_window, why_bound, why_gap
from earlyorlate.reasons import is_reason, reason
from earlyorlate.shifts import are_holes, are_pieces, holes, is_clock_paper, pieces, shift_stretches
from earlyorlate.spans import at_time, gaps_of, times_of
from earlyorlate.steps import closure, implied
from earlyorlate.strong import enough_bound, strong_bound
from earlyorlate.struck import is_struck, struck_for
from earlyorlate.sure import groups, sure_kinds, why_kind
from earlyorlate.times import greatest_times, least_times, times_for
from tests.desks import METHODS, drawn_item
from tests.helper import KINDS
from tests.oracle import CONTRARY, all_kinds, holds, mixed_books, plain, turned
from tests.saying import PARTS, items_of, made, with_items


def drawn_books(seed, many):
    """Small books, with and without an explanation."""
    half = many // 2
    return (mixed_books(seed, half, events=(0, 3), witnesses=(0, 4), items=(0, 4), numbers=(-3, 3), gaps=(-6, 1))
            + mixed_books(seed + " more", many - half, events=(1, 3), witnesses=(2, 4), items=(2, 5), numbers=(-4, 4),
                          gaps=(-9, -3), clauses=(0, 4)))


def no_more(call, value):
    """A value with call done to it, if it is not None."""
    return None if value is None else call(value)


def told_of(book):
    """What is told of a book with an explanation, in a form that can be compared: a dict of dicts and of lists."""
    pairs = list(product(range(book.events), repeat=2))
    both = list(product(range(book.witnesses), range(book.events)))
    return {
        "rows": list(Fits(book)),
        "counts": (count_fits(book), early_counts(book)),
        "kinds": sure_kinds(book),
        "groups": sorted(sorted(sum(some, [])) for some in groups(book)),
        "windows": {e: sure_window(book, e) for e in range(book.events)},
        "gaps": {pair: sure_gap(book, *pair) for pair in pairs},
        "order": sure_order(book),
        "times": {e: times_of(book, e) for e in range(book.events)},
        "spans": {pair: gaps_of(book, *pair) for pair in pairs},
        "late": {pair: late_from(book, *pair) for pair in both},
        "early": {pair: early_to(book, *pair) for pair in both},
        "shifts": {row: shift_stretch(book, [0], row) for row in all_kinds(book)} if book.witnesses else {},
        "questions": questions(book),
        "table": ask_table(book),
        "needless": needless(book),
    }


def without_needless(told):
    return {name: value for name, value in told.items() if name != "needless"}


class EitherOrTest(unittest.TestCase):
    """[5] and [6]."""

    def test_each_book_has_an_explanation_or_a_reason(self):
        seen = set()
        for book in drawn_books("either or", 150):
            found, why = explained(book), reason(book)
            seen.add(found[0])
            self.assertEqual(found[0] == "fits", why is None)
            self.assertIs(has_fit(book), why is None)
            if why is None:
                self.assertTrue(holds(book, *found[1:]))
                self.assertEqual([len(repairs(book)), clashes(book), implies(book, least_book(book))], [1, [], True])
            else:
                self.assertIs(is_reason(book, why), True)
                self.assertEqual([count_fits(book), clashes(book) == []], [0, False])
                for call in (sure_kinds, groups, questions, plan):
                    self.assertRaises(NoFit, call, book)
        self.assertEqual(seen, {"fits", "gaps", "bounds", "kinds"})

    def test_desks_have_an_explanation(self):
        chance = Random("desks")
        for _ in range(20):
            desk = Desk(chance.randint(1, 3), chance.randint(1, 3))
            for _ in range(15):
                sort, item = drawn_item(chance, desk.book.events, desk.book.witnesses)
                longer = with_items(desk.book, (sort, item))
                try:
                    getattr(desk, METHODS[sort])(*item)
                except NoFit as caught:
                    self.assertIs(is_reason(longer, caught.reason), True)
                    self.assertIs(has_fit(longer), False)
                self.assertIs(has_fit(desk.book), True)

    def test_kinds_that_no_step_leads_out_of(self):
        for book in drawn_books("steps", 80):
            if reason(book) is None or reason(book)[0] == "kinds":
                for kinds in all_kinds(book):
                    literals = list(enumerate(kinds))
                    left = [one for one in literals if set(implied(book, one)) - set(literals)]
                    self.assertIs(fits(book, kinds), not left)
                    self.assertIs(fits(book, kinds), all(set(closure(book, one)) <= set(literals) for one in literals))


class TimesTest(unittest.TestCase):
    """[7], [8] and [9]."""

    def some_explanations(self, book):
        found = [explained(book)[1:]] + [(kinds, times_for(book, kinds)) for kinds in Fits(book)]
        for e, x in product(range(book.events), (-3, 0, 2)):
            found.append(at_time(book, e, x))
        return [some for some in found if some is not None][:9]

    def test_greater_and_lesser_times_with_the_same_kinds(self):
        for book in drawn_books("same kinds", 80):
            if has_fit(book):
                for one, other in product(self.some_explanations(book), repeat=2):
                    if one[0] == other[0]:
                        for better in (max, min):
                            times = tuple(better(pair) for pair in zip(one[1], other[1]))
                            self.assertIs(is_explanation(book, (one[0], times)), True)

    def test_least_and_greatest_times(self):
        for book in drawn_books("least", 80):
            for kinds in Fits(book):
                lows, highs = least_times(book, kinds), greatest_times(book, kinds)
                windows = [sure_window(book, e) for e in range(book.events)]
                for e, (low, high) in enumerate(zip(lows, highs)):
                    self.assertTrue(windows[e][0] is None or low is not None and windows[e][0] <= low)
                    self.assertTrue(windows[e][1] is None or high is not None and windows[e][1] >= high)
                if None not in lows:
                    self.assertIs(is_explanation(book, (kinds, lows)), True)
                if None not in highs:
                    self.assertIs(is_explanation(book, (kinds, highs)), True)

    def test_middles(self):
        for book in drawn_books("middles", 60):
            if has_fit(book):
                for one, two, three in product(self.some_explanations(book)[::2], repeat=3):
                    self.assertIs(is_explanation(book, median(one, two, three)), True)

    def test_plain_books(self):
        for book in [plain(book) for book in drawn_books("plain", 100)]:
            if has_fit(book):
                for one, other in product(self.some_explanations(book), repeat=2):
                    self.assertIs(is_explanation(book, joined(one, other)), True)
                    self.assertIs(is_explanation(book, met(one, other)), True)
                fewest, most = fewest_early(book), most_early(book)
                for kinds in Fits(book):
                    self.assertTrue(all(some == "late" or kind == "early" for some, kind in zip(fewest, kinds)))
                    self.assertTrue(all(some == "early" or kind == "late" for some, kind in zip(most, kinds)))
            try:
                witnesses, _ = struck_for(book)
                self.assertEqual(len(witnesses), len(aside_for(book)[0]))
                self.assertIs(is_struck(book, struck_for(book)), True)
            except NoHelp as caught:
                self.assertEqual(repairs(book), [])
                self.assertIs(is_reason(book, caught.reason), True)


class SureTest(unittest.TestCase):
    """[10]: what is sure, told by each module that tells of it."""

    def said(self, book, sort, item):
        """Whether an item is sure, as its contraries tell, with reasons of them."""
        return all(reason(some) is not None for some in contraries(book, sort, item))

    def test_kinds(self):
        for book in drawn_books("sure kinds", 90):
            if has_fit(book):
                for w, kind in product(range(book.witnesses), KINDS):
                    item = (w, kind, w, kind)
                    right = all(row[w] == kind for row in Fits(book))
                    self.assertIs(self.said(book, "clauses", item), right)
                    self.assertIs((w, kind) in sure_kinds(book), right)
                    self.assertIs(why_kind(book, w, kind) is not None, right)
                    self.assertIs(implies(book, made(book, [("clauses", item)])), right)
                    self.assertEqual(parting(book, made(book, [("clauses", item)])) is None, right)

    def test_gaps_and_bounds(self):
        for book in drawn_books("sure gaps", 70):
            if has_fit(book):
                for (a, b), g in product(permutations(range(book.events), 2), range(-7, 8)):
                    end = sure_gap(book, a, b)
                    self.check_sure(book, "gaps", (a, b, g), end is not None and g <= end, why_gap)
                for e, x in product(range(book.events), range(-7, 8)):
                    low, high = sure_window(book, e)
                    for side, right in (("least", low is not None and x <= low), ("most", high is not None and x >= high)):
                        self.check_sure(book, "sure", (e, side, x), right, why_bound)
                        self.assertIs(strong_bound(book, e, side, x) is not None, right)
                        self.assertIs(enough_bound(book, e, side, x) is not None, right)

    def check_sure(self, book, sort, item, right, why):
        self.assertIs(self.said(book, sort, item), right)
        self.assertIs(why(book, *item) is not None, right)
        self.assertIs(implies(book, made(book, [(sort, item)])), right)
        self.assertIs(alike(book, with_items(book, (sort, item))), right)

    def test_all_items_of_a_book_are_sure_in_it(self):
        for book in drawn_books("own items", 60):
            self.assertTrue(all(self.said(book, sort, item) for sort, item in items_of(book)))
            self.assertIs(implies(book, book), True)
            self.assertEqual(len(whys(book, book)), len(items_of(book)))

    def test_words_of_tellings(self):
        for book in drawn_books("words", 40):
            if has_fit(book):
                for w, e, x in product(range(book.witnesses), range(book.events), range(-4, 5)):
                    kinds = {row[w] for row in Fits(with_items(book, ("tellings", (w, e, x))))}
                    word = "none" if not kinds else "both" if len(kinds) == 2 else kinds.pop()
                    self.assertEqual(word_of(book, w, e, x), word)


class ChangedTest(unittest.TestCase):
    """[11] and [12]: what becomes of all that is told if a book is changed."""

    def check_told(self, found, right):
        for name, value in right.items():
            self.assertEqual(found[name], value, name)

    def check_changed(self, seed, many, change, told):
        """Check books that are changed, and what is told of them, which is what told makes of what was told."""
        some = 0
        for book in drawn_books(seed, many):
            other = change(book)
            self.assertIs(has_fit(other), has_fit(book))
            if has_fit(book):
                some += 1
                self.check_told(told_of(other), told(book, told_of(book)))
        self.assertGreater(some, many // 5)

    def test_turned(self):
        def ends(pair):
            return tuple(no_more(lambda x: -x, x) for x in pair[::-1])

        def stand(kinds):
            return tuple(no_more(CONTRARY.get, kind) for kind in kinds)

        def told(book, was):
            many = was["counts"][0]
            late = {pair: ("to", -word[1]) if word[0] == "from" else word for pair, word in was["late"].items()}
            early = {pair: ("from", -word[1]) if word[0] == "to" else word for pair, word in was["early"].items()}
            return {
                "rows": sorted(stand(row) for row in was["rows"]),
                "counts": (many, tuple(many - some for some in was["counts"][1])),
                "kinds": sorted(turned(one) for one in was["kinds"]),
                "groups": was["groups"],
                "windows": {e: ends(window) for e, window in was["windows"].items()},
                "gaps": {(b, a): g for (a, b), g in was["gaps"].items()},
                "order": sorted((b, a) for a, b in was["order"]),
                "times": {e: [ends(some) for some in found[::-1]] for e, found in was["times"].items()},
                "spans": {(b, a): found for (a, b), found in was["spans"].items()},
                "late": early,
                "early": late,
                "shifts": {stand(row): no_more(ends, some) for row, some in was["shifts"].items()},
                "questions": was["questions"],
                "table": {stand(some): worth for some, worth in was["table"].items()},
                "needless": was["needless"],
            }

        self.check_changed("turned", 70, lambda book: book.turned(), told)

    def test_moved(self):
        def by_seven(x):
            return no_more(lambda x: x + 7, x)

        def told(book, was):
            return dict(
                was,
                windows={e: tuple(by_seven(x) for x in window) for e, window in was["windows"].items()},
                times={e: [tuple(by_seven(x) for x in some) for some in found] for e, found in was["times"].items()},
                late={pair: word[:1] + tuple(by_seven(x) for x in word[1:]) for pair, word in was["late"].items()},
                early={pair: word[:1] + tuple(by_seven(x) for x in word[1:]) for pair, word in was["early"].items()},
            )

        self.check_changed("moved", 70, lambda book: book.moved(7), told)

    def test_renamed(self):
        def names(book):
            # Witness 0 keeps its name, as the shifts are asked for it.
            return ([(e + 1) % book.events for e in range(book.events)],
                    [0] * (book.witnesses > 0) + list(range(1, book.witnesses))[::-1])

        def told(book, was):
            events, witnesses = names(book)

            def stand(kinds):
                found = list(kinds)
                for w, kind in enumerate(kinds):
                    found[witnesses[w]] = kind
                return tuple(found)

            def by_name(some):
                return {tuple(events[e] for e in pair): value for pair, value in some.items()}

            def by_both(some):
                return {(witnesses[w], events[e]): value for (w, e), value in some.items()}

            return {
                "rows": sorted(stand(row) for row in was["rows"]),
                "counts": (was["counts"][0], stand(was["counts"][1])),
                "kinds": sorted((witnesses[w], kind) for w, kind in was["kinds"]),
                "groups": sorted(sorted(witnesses[w] for w in some) for some in was["groups"]),
                "windows": {events[e]: window for e, window in was["windows"].items()},
                "gaps": by_name(was["gaps"]),
                "order": sorted((events[a], events[b]) for a, b in was["order"]),
                "times": {events[e]: found for e, found in was["times"].items()},
                "spans": by_name(was["spans"]),
                "late": by_both(was["late"]),
                "early": by_both(was["early"]),
                "shifts": {stand(row): some for row, some in was["shifts"].items()},
                "questions": was["questions"],
                "table": {stand(some): worth for some, worth in was["table"].items()},
                "needless": was["needless"],
            }

        self.check_changed("renamed", 70, lambda book: book.renamed(*names(book)), told)

    def test_said_again(self):
        for book in drawn_books("said again", 70):
            again = book.both(book)
            self.assertIs(alike(book, again), True)
            self.assertEqual([clashes(again), repairs(again)], [clashes(book), repairs(book)])
            self.assertEqual(needless(again), [(sort, at) for sort in PARTS for at in range(2 * len(getattr(book, sort)))])
            if has_fit(book):
                self.check_told(without_needless(told_of(again)), without_needless(told_of(book)))

    def test_all_numbers_times_a_factor(self):
        for book in drawn_books("factor", 70):
            factor = 10 ** 9
            greater = Book(book.events, book.witnesses, [(w, e, x * factor) for w, e, x in book.tellings],
                           [(a, b, g * factor) for a, b, g in book.gaps], [(e, side, x * factor) for e, side, x in book.sure],
                           book.clauses)
            self.assertEqual([clashes(greater), repairs(greater), needless(greater)],
                             [clashes(book), repairs(book), needless(book)])
            if has_fit(book):
                was, found = told_of(book), told_of(greater)
                for name in ("rows", "counts", "kinds", "groups", "order", "questions", "table", "needless"):
                    self.assertEqual(found[name], was[name])
                for name in ("windows", "shifts"):
                    right = {key: no_more(lambda ends: tuple(no_more(lambda x: x * factor, x) for x in ends), some)
                             for key, some in was[name].items()}
                    self.assertEqual(found[name], right)
                self.assertEqual(found["gaps"], {pair: no_more(lambda g: g * factor, g) for pair, g in was["gaps"].items()})
                for name in ("late", "early"):
                    right = {pair: word[:1] + tuple(x * factor for x in word[1:]) for pair, word in was[name].items()}
                    self.assertEqual(found[name], right)

    def test_an_item_more(self):
        chance = Random("more")
        some = {True: 0, False: 0}
        for book in drawn_books("an item more", 120):
            drawn = drawn_item(chance, book.events, book.witnesses)
            if drawn is None:
                continue
            more = with_items(book, drawn)
            self.assertIs(implies(more, book), True)
            self.assertLessEqual(set(Fits(more)), set(Fits(book)))
            self.assertTrue(all(any(set(least) <= set(clash) for least in clashes(more)) for clash in clashes(book)))
            some[has_fit(more)] += 1
            if has_fit(more):
                self.check_more(book, more)
            self.check_shifts_of_more(book, more)
        self.assertTrue(min(some.values()) > 20, some)

    def check_more(self, book, more):
        self.assertLessEqual(set(sure_kinds(book)), set(sure_kinds(more)))
        self.assertLessEqual(set(sure_order(book)), set(sure_order(more)))
        for e in range(book.events):
            for at, sign in ((0, 1), (1, -1)):
                end, other = sure_window(book, e)[at], sure_window(more, e)[at]
                self.assertTrue(end is None or other is not None and sign * end <= sign * other)
        self.assertLessEqual(questions(more), book.witnesses)
        self.assertLessEqual(set(ask_table(more)), set(ask_table(book)))

    def check_shifts_of_more(self, book, more):
        others = list(range(0, book.witnesses, 2))
        for shift in range(-12, 13, 3):
            fit, fit_more = [any((low is None or low <= shift) and (high is None or shift <= high)
                                 for low, high in shift_stretches(some, others)) for some in (book, more)]
            self.assertTrue(fit or not fit_more)
        self.assertIs(is_clock_paper(more, others, pieces(more, others), holes(more, others)), True)
        # What was a hole stays one, as the indexes of the items stay.
        self.assertIs(are_holes(more, others, holes(book, others)), True)
        self.assertIs(are_pieces(book, others, pieces(more, others)), True)

    def test_turned_twice(self):
        for book in drawn_books("twice", 40):
            self.assertEqual(book.turned().turned(), book)
            if repairs(book):
                self.assertEqual(len(aside_for(book)[0]), len(aside_for(book.turned())[0]))
                self.assertIs(is_aside(book, aside_for(book)), True)


if __name__ == "__main__":
    unittest.main()
