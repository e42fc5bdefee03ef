"""[70] struck: is_chain and is_struck of any values, with [2] and [4]."""

import unittest

from earlyorlate.books import Book
from earlyorlate.errors import NoFit
from earlyorlate.fits import explained
from earlyorlate.reasons import reason
from earlyorlate.struck import chain, is_chain, is_struck, struck_for
from tests.chains import fewest, is_true_chain, judge_of_chains, known_books, named, pairs
from tests.helper import NEITHER, SameAsAll
from tests.oracle import all_steps, altered, is_true_step, mixed_books, plain, rows_of, sets_of

E, L = "early", "late"


class IsChainTest(unittest.TestCase):
    book = Book(2, 4, [(0, 0, 5), (1, 1, 3), (1, 0, 4), (2, 0, 2), (0, 0, 1)], [(0, 1, 1), (1, 0, -3)],
                [(0, "least", 3), (1, "most", 4)], pairs((2, 3), (1, 2), (2, 1), (0, 1), known=[0, 0, 3], never=[2, 3]))
    begin = ((0, L), ("clause", 4), (0, E))
    on = ((0, E), ("clause", 3), (1, E))
    down = ((1, E), ("clause", 1), (2, E))
    end = ((2, E), ("clause", 8 - 1), (2, L))

    def check_things(self, things, right, book=None):
        for thing in things:
            self.assertIs(is_chain(book or self.book, thing), right, thing)

    def test_chains(self):
        other_begin = ((0, L), ("clause", 5), (0, E))
        other_on = ((0, E), ("link", (("told", 0), (), ("told", 2))), (1, E))
        by_way = ((0, E), ("link", (("told", 0), (0,), ("told", 1))), (1, E))
        around = ((0, E), ("link", (("told", 0), (0, 1, 0), ("told", 1))), (1, E))
        third = ((3, L), ("clause", 6), (3, E)), ((3, E), ("clause", 8), (3, L))
        self.check_things([[self.begin, self.on, self.down, self.end], [other_begin, self.on, self.down, self.end],
                           [self.begin, other_on, self.down, self.end], [other_begin, by_way, self.down, self.end],
                           [self.begin, around, self.down, self.end], list(third),
                           [self.begin, self.on, self.down, ((2, E), ("clause", 0), (3, E)), third[1]]], True)

    def test_short_ones(self):
        self.check_things([[], [self.begin], [self.end], [self.on], [self.begin, self.end], [self.begin, self.on],
                           [self.down, self.end], [self.on, self.down]], False)

    def test_a_step_out_twice_or_otherwise(self):
        steps = [self.begin, self.on, self.down, self.end]
        for at in range(4):
            self.check_things([steps[:at] + steps[at + 1:], steps[:at] + [steps[at]] + steps[at:]], False)
        self.check_things([steps[::-1], steps + steps, steps[1:] + steps[:1], steps + [self.begin], [self.on] + steps,
                           [self.begin, self.down, self.on, self.end], [self.begin, self.end, self.down, self.on],
                           steps[:2] + [self.down[::-1]] + steps[3:],
                           [((2, L), ("clause", 1), (1, L)), ((1, L), ("clause", 3), (0, L))]], False)

    def test_a_literal_twice(self):
        up = ((2, E), ("clause", 2), (1, E))
        self.check_things([[self.begin, self.on, self.down, up, self.down, self.end]], False)
        stay = ((0, E), ("link", (("told", 0), (), ("told", 4))), (0, E))
        self.assertTrue(is_true_step(self.book, stay))
        self.check_things([[self.begin, stay, self.on, self.down, self.end]], False)

    def test_early_ones_alone_stand_between(self):
        # From (2, "late") on, steps lead back to the beginning, and from there again to an end.
        back = [((2, L), ("clause", 1), (1, L)), ((1, L), ("clause", 3), (0, L))]
        steps = [self.begin, self.on, self.down, self.end]
        self.check_things([steps + back, steps + back + steps, back + steps, back + steps[:1], steps[-1:] + back], False)

    def test_tuples_and_lists(self):
        steps = [self.begin, self.on, self.down, self.end]
        self.check_things([tuple(steps), [tuple(steps)], (steps,), [steps], [list(step) for step in steps]], False)
        for at in range(4):
            for part in range(3):
                step = list(steps[at])
                step[part] = list(step[part])
                self.check_things([steps[:at] + [tuple(step)] + steps[at + 1:]], False)

    def test_truths(self):
        book = Book(0, 2, [], [], [], pairs((0, 1), known=[0], never=[1]))
        steps = [((0, L), ("clause", 1), (0, E)), ((0, E), ("clause", 0), (1, E)), ((1, E), ("clause", 2), (1, L))]
        self.check_things([steps], True, book)
        self.check_things([[((False, L), ("clause", 1), (False, E)), ((False, E), ("clause", 0), (1, E)), steps[2]],
                           [((0, L), ("clause", True), (0, E)), steps[1], steps[2]],
                           [steps[0], ((0, E), ("clause", False), (1, E)), steps[2]],
                           [steps[0], ((0, E), ("clause", 0), (True, E)), ((True, E), ("clause", 2), (True, L))]],
                          False, book)

    def test_other_values(self):
        made = [self.book, Book(0, 0), NoFit(0), reason(self.book), reason(self.book)[1], explained(Book(1, 1)),
                struck_for(self.book), struck_for(self.book)[0], struck_for(self.book)[1]]
        self.check_things(NEITHER + made + [SameAsAll(), 0, "chain", (), [None, None], [[], []], [(), ()], [0, 1],
                                            [SameAsAll(), SameAsAll()], [self.begin, None], [None, self.end],
                                            {0: self.begin, 1: self.end}, [["clause", 0]] * 3], False)

    def test_what_was_told_with_a_part_altered(self):
        books = known_books("chains", 30, (2, 4), events=(1, 2), witnesses=(2, 3), items=(1, 4), gaps=(-5, -1),
                            clauses=(0, 4))
        many = 0
        for book in [self.book] + books:
            if chain(book) is not None:
                right = judge_of_chains(book)
                self.assertTrue(right(chain(book)))
                for thing in altered(chain(book)):
                    self.check_things([thing], right(thing), book)
                    many += 1
        self.assertGreater(many, 2000)

    def test_all_rows_of_few_steps(self):
        many = 0
        for book in mixed_books("rows", 60, events=(0, 1), witnesses=(1, 2), items=(0, 3), clauses=(1, 4)):
            book = plain(book)
            steps = all_steps(book, 1)[:12]
            for thing in [[one, other] for one in steps for other in steps] + [[one] for one in steps] + [
                    [one, two, three] for one in steps for two in steps for three in steps]:
                self.assertIs(is_chain(book, thing), is_true_chain(book, thing))
                many += is_true_chain(book, thing)
        self.assertGreater(many, 20)


class IsStruckTest(unittest.TestCase):
    def judge(self, book):
        """A function that tells of any value whether it is such a tuple, by the definition."""
        is_right_chain = judge_of_chains(book)
        many = fewest(book)

        def are_right(witnesses, chains):
            if repr(witnesses) not in [repr(list(some)) for some in sets_of(book)] or len(witnesses) != many:
                return False
            if not all(is_right_chain(some) for some in chains) or len(chains) != many:
                return False
            who = [named(some) for some in chains]
            return sum(map(len, who)) == len(set().union(*who)) and bool(rows_of(book.struck(witnesses)))

        return lambda thing: (thing.__class__ is tuple and len(thing) == 2
                              and [part.__class__ for part in thing] == [list, list] and are_right(*thing))

    def check_things(self, book, things, right):
        for thing in things:
            self.assertIs(is_struck(book, thing), right, thing)

    def test_what_was_told_with_a_part_altered(self):
        books = [Book(1, 3, [(0, 0, 5), (1, 0, 4)], [], [], pairs(known=[0, 2], never=[1, 2])),
                 Book(0, 3, [], [], [], pairs((0, 1), (1, 2), known=[0, 1], never=[1, 2])),
                 Book(0, 2, [], [], [], pairs(known=[0, 1], never=[1, 0])), Book(1, 2)]
        books += known_books("is struck", 30, (2, 4), events=(1, 2), witnesses=(1, 3), items=(1, 3), gaps=(-5, -1),
                             clauses=(0, 3))
        many = 0
        for book in books:
            right = self.judge(book)
            found = struck_for(book)
            self.assertTrue(right(found))
            for thing in altered(found):
                self.check_things(book, [thing], right(thing))
                many += 1
        self.assertGreater(many, 3000)

    def test_others_than_the_one_told(self):
        book = Book(0, 3, [], [], [], pairs((0, 1), (1, 2), known=[0], never=[2]))
        chains = [chain(book)]
        self.check_things(book, [([w], chains) for w in range(3)], True)
        self.check_things(book, [([], []), ([], chains), ([0], []), ([0], chains * 2), ([0, 1], chains),
                                 ([0, 1], chains * 2), ([3], chains), ([-1], chains), ([0, 0], chains), ([None], chains),
                                 ([0, 0], chains * 2), (["0"], chains), ([(0,)], chains), ([0.0], chains)], False)

    def test_chains_with_a_witness_in_common(self):
        clauses = pairs((0, 2), (1, 2), (2, 3), (2, 4), known=[0, 1], never=[3, 4])
        book = Book(0, 5, [], [], [], clauses)
        one = [((0, L), ("clause", 4), (0, E)), ((0, E), ("clause", 0), (2, E)), ((2, E), ("clause", 2), (3, E)),
               ((3, E), ("clause", 6), (3, L))]
        other = [((1, L), ("clause", 5), (1, E)), ((1, E), ("clause", 1), (2, E)), ((2, E), ("clause", 3), (4, E)),
                 ((4, E), ("clause", 7), (4, L))]
        self.assertTrue(is_chain(book, one) and is_chain(book, other))
        self.check_things(book, [([2], [one]), ([2], [other])], True)
        self.check_things(book, [([0, 1], [one, other]), ([2, 3], [one, other]), ([3, 4], [one, other]), ([0], [one]),
                                 ([1], [other]), ([2], [one, other])], False)

    def test_too_few_or_the_wrong_ones(self):
        book = Book(0, 4, [], [], [], pairs(known=[0, 1, 3], never=[0, 1, 2]))
        both = struck_for(book)[1]
        self.check_things(book, [([0, 1], both), ([0, 1], both[::-1])], True)
        self.check_things(book, [([0], both[:1]), ([1], both[1:]), ([0, 1, 2], both), ([1, 0], both), ([0, 2], both),
                                 ([2, 3], both), ([0, 1, 3], both + both[:1]), ([0, 1], both[:1] * 2),
                                 ([0, 1], both + both[:1])], False)

    def test_truths(self):
        book = Book(0, 2, [], [], [], pairs(known=[0], never=[0]))
        chains = [chain(book)]
        self.check_things(book, [([0], chains)], True)
        self.check_things(book, [([False], chains)], False)
        book = book.renamed([], [1, 0])
        self.check_things(book, [([1], [chain(book)])], True)
        self.check_things(book, [([True], [chain(book)])], False)

    def test_other_values(self):
        book = Book(0, 2, [], [], [], pairs(known=[0], never=[0]))
        found = struck_for(book)
        self.check_things(book, NEITHER + [SameAsAll(), book, 0, (), [], ((), ()), ([], ()), ((), []), [[], []], found[0],
                                           found[1], list(found), found[::-1], (found,), found + ([],), found[:1],
                                           ((0,), found[1]), ([0], tuple(found[1])), ([0], found[1][0]), ([0], [0]),
                                           ([0], [None]), ([0], None), (None, found[1]), (0, found[1]),
                                           ([SameAsAll()], found[1]), ([0], [SameAsAll()]), ([0], SameAsAll()),
                                           ([[0]], found[1]), chain(book), reason(book), NoFit(0)], False)

    def test_books_with_an_explanation(self):
        book = Book(1, 2, [(0, 0, 5), (1, 0, 4)])
        self.check_things(book, [([], [])], True)
        self.check_things(book, [([0], []), ([], [[]]), ([0], [[]]), ((), ()), ([], []) * 2, ([0, 1], [])], False)


if __name__ == "__main__":
    unittest.main()
