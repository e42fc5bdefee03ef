"""[102] desk: lines, with [3] and [4]."""

import unittest
from itertools import product
from random import Random

from earlyorlate.books import Book
from earlyorlate.counted import count_fits
from earlyorlate.desk import Desk
from earlyorlate.errors import NoCommand, Nothing, TooMany
from earlyorlate.notation import show_book, show_kinds
from earlyorlate.orders import sure_order, sure_window
from earlyorlate.readers import read_book, read_kinds
from earlyorlate.sure import sure_kind
from tests.checks import check_quick
from tests.desks import GREAT, Model, desk_of, drawn_item
from tests.helper import NEITHER, SameAsAll, check_raised
from tests.oracle import planted_books, rows_of
from tests.saying import items_of, made
from tests.test_desk import full_desk

E, L = "early", "late"


def line_of(sort, item):
    """The line of an item, as the document has it."""
    if sort == "tellings":
        return "tell {} {} {}".format(*item)
    if sort == "gaps":
        return "gap {} {} {}".format(*item)
    if sort == "sure":
        return "{1} {0} {2}".format(*item)
    if item[:2] == item[2:]:
        return "known {} {}".format(*item[:2])
    return "clause {} {} {} {}".format(*item)


class LinesTest(unittest.TestCase):
    def check_lines(self, desk, lines):
        """Check what each line returns."""
        for line, found in lines:
            self.assertEqual(desk.execute(line), found, line)

    def check_no_command(self, desk, lines):
        for line in lines:
            book = desk.book
            with self.subTest(line=line):
                check_raised(self, NoCommand, {"line": line}, desk.execute, line)
            self.assertEqual(desk.book, book)


class DeedsTest(LinesTest):
    def test_each_deed(self):
        desk = Desk(3, 2)
        self.check_lines(desk, [(line, "done") for line in (
            "tell 0 2 5", "gap 0 1 -2", "least 0 -1000000000000", "most 1 7", "known 1 late", "clause 0 early 1 late",
            "clause 0 early 0 late", "tell 1 0 1000000000000", "known 0 early", "tell 0 2 0")])
        self.assertEqual(desk.book, Book(3, 2, [(0, 2, 5), (1, 0, GREAT), (0, 2, 0)], [(0, 1, -2)],
                                         [(0, "least", -GREAT), (1, "most", 7)],
                                         [(1, L, 1, L), (0, E, 1, L), (0, E, 0, L), (0, E, 0, E)]))

    def test_no_fit(self):
        desk = desk_of(Book(2, 2, [(0, 0, 5)], [(0, 1, 2)], [(1, "most", 6)], [(0, L, 0, L)]))
        book = desk.book
        self.check_lines(desk, [(line, "no fit") for line in ("gap 1 0 -1", "least 0 5", "known 0 early", "least 1 7")])
        self.assertEqual(desk.book, book)
        self.check_lines(desk, [("most 0 5", "done"), ("undo", "done"), ("known 0 early", "no fit"), ("redo", "done")])

    def test_too_many(self):
        for sort in ("tellings", "gaps", "sure", "clauses"):
            desk, wrong = full_desk(sort)
            book = desk.book
            for item in (getattr(book, sort)[0], wrong):
                check_raised(self, TooMany, {"limit": 20}, desk.execute, line_of(sort, item))
            self.assertEqual(desk.book, book)
            self.check_no_command(desk, ["tell 3 0 0", "gap 0 0 0", "least 3 0", "clause 0 early 0 early", "known 3 late"])

    def test_undo_and_redo(self):
        desk = Desk(1, 1)
        self.check_lines(desk, [("undo", "nothing"), ("redo", "nothing"), ("tell 0 0 5", "done"), ("redo", "nothing"),
                                ("undo", "done"), ("undo", "nothing"), ("redo", "done"), ("redo", "nothing"), ("undo", "done"),
                                ("most 0 7", "done"), ("redo", "nothing")])
        self.assertEqual(desk.book, Book(1, 1, [], [], [(0, "most", 7)]))

    def test_lines_and_methods_beside_one_another(self):
        desk = Desk(1, 1)
        desk.tell(0, 0, 5)
        self.check_lines(desk, [("undo", "done"), ("tell 0 0 6", "done")])
        desk.undo()
        self.assertEqual(desk.book, Book(1, 1))
        self.check_lines(desk, [("redo", "done"), ("show", "events 1\nwitnesses 1\ntell 0 0 6")])
        desk.drop("tellings", 0)
        self.check_lines(desk, [("undo", "done"), ("count", "2"), ("redo", "done"), ("show", "events 1\nwitnesses 1")])
        self.assertRaises(Nothing, desk.redo)

    def test_copies(self):
        desk = Desk(1, 1)
        self.check_lines(desk, [("tell 0 0 5", "done"), ("tell 0 0 6", "done"), ("undo", "done")])
        other = desk.copied()
        self.check_lines(other, [("redo", "done"), ("undo", "done"), ("undo", "done"), ("undo", "nothing")])
        self.check_lines(desk, [("known 0 late", "done"), ("redo", "nothing"), ("kind 0", "late")])
        self.check_lines(other, [("redo", "done"), ("redo", "done"), ("kind 0", "open")])


class AnswersTest(LinesTest):
    def test_kind(self):
        desk = desk_of(Book(1, 3, [(0, 0, 5), (1, 0, 7)], [], [(0, "most", 6)]))
        self.check_lines(desk, [("kind 0", "open"), ("kind 1", "late"), ("kind 2", "open"), ("known 2 early", "done"),
                                ("kind 2", "early"), ("undo", "done"), ("kind 2", "open")])

    def test_window(self):
        desk = desk_of(Book(4, 1, [(0, 3, 5), (0, 3, 7)], [(0, 1, 2)], [(0, "least", -4), (1, "most", 10 ** 12)]))
        self.check_lines(desk, [("window 0", "-4 999999999998"), ("window 1", "-2 1000000000000"), ("window 2", "- -"),
                                ("window 3", "- -"), ("least 2 0", "done"), ("window 2", "0 -"), ("most 2 0", "done"),
                                ("window 2", "0 0"), ("known 0 late", "done"), ("window 3", "- 5")])

    def test_windows_beyond_the_bounds(self):
        desk = desk_of(Book(8, 0, [], [(a, a + 1, GREAT) for a in range(7)], [(0, "least", GREAT)]))
        self.check_lines(desk, [("window 7", "8000000000000 -")])

    def test_order(self):
        desk = desk_of(Book(3, 0, [], [(0, 1, 1), (2, 0, 0)]))
        self.check_lines(desk, [("order 0 1", "before"), ("order 1 0", "after"), ("order 2 0", "open"), ("order 0 2", "open"),
                                ("order 2 1", "before"), ("order 1 2", "after")])

    def test_count_and_show(self):
        self.check_lines(Desk(0, 0), [("count", "1"), ("show", "events 0\nwitnesses 0")])
        self.check_lines(Desk(8, 8), [("count", "256"), ("show", "events 8\nwitnesses 8")])
        desk = desk_of(Book(1, 2, [(0, 0, 5), (1, 0, 7)], [], [], [(0, E, 1, L)]))
        self.check_lines(desk, [("count", "3"), ("show", "events 1\nwitnesses 2\ntell 0 0 5\ntell 1 0 7\nclause 0 early 1 late")])

    def test_questions_change_nothing(self):
        desk = desk_of(Book(2, 2, [(0, 0, 5), (1, 0, 7)], [(0, 1, 2)]))
        desk.undo()
        book = desk.book
        for line in ("kind 0", "window 1", "order 0 1", "count", "show") * 2:
            self.assertIs(desk.execute(line).__class__, str)
            self.assertEqual(desk.book, book)
        self.check_lines(desk, [("redo", "done")])


class NoCommandTest(LinesTest):
    book = Book(3, 2, [(0, 0, 5)], [(0, 1, 2)], [(1, "most", 60)], [(0, L, 0, L)])
    good = ["tell 0 2 5", "gap 0 1 0", "least 0 -7", "most 1 17", "known 1 late", "clause 0 early 1 late", "undo", "redo",
            "kind 0", "window 1", "order 0 1", "count", "show"]

    def test_good_ones(self):
        for line in self.good:
            self.assertIs(desk_of(self.book).execute(line).__class__, str)

    def test_no_strings(self):
        desk = desk_of(self.book)
        things = [thing for thing in NEITHER if not isinstance(thing, str)]
        for thing in things + [SameAsAll(), 0, 1, -1, [], (), ["undo"], ("count",), b"count", {"count": 0}, 10 ** 30]:
            with self.assertRaises(NoCommand) as caught:
                desk.execute(thing)
            self.assertIs(caught.exception.line, thing)
            self.assertEqual(list(vars(caught.exception)), ["line"])
        self.assertEqual(desk.book, self.book)

    def test_other_blanks_and_signs(self):
        desk = desk_of(self.book)
        for line in self.good:
            blanks = [at for at, sign in enumerate(line) if sign == " "]
            self.check_no_command(desk, [" " + line, line + " ", line + "\n", "\n" + line, line + " 0", line.upper(),
                                         line.capitalize(), line + line, line[1:], line[:-1] + "~", line + "\n" + line])
            self.check_no_command(desk, [line[:at] + " " + line[at:] for at in blanks] + [
                line[:at] + line[at + 1:] for at in blanks] + [line[:at] + "\n" + line[at + 1:] for at in blanks])
        self.check_no_command(desk, ["", " ", "\n", "-", "0", "none", "done", "tell", "gap", "least", "most", "known", "clause",
                                     "kind", "window", "order", "drop tellings 0", "copied", "events 3", "witnesses 2", "book"])

    def test_integers_otherwise(self):
        desk = desk_of(self.book)
        for line in self.good:
            words = line.split(" ")
            for at, word in enumerate(words):
                if word.lstrip("-").isdigit():
                    bad = ["0" + word, "+" + word, "-0", word + ".0", "", "x", "early", "1" + "0" * 13, "9" * 41, "-" + "9" * 5000]
                    self.check_no_command(desk, [" ".join(words[:at] + [some] + words[at + 1:]) for some in bad])

    def test_events_and_witnesses_that_there_are_not(self):
        desk = desk_of(self.book)
        self.check_no_command(desk, ["tell 2 0 5", "tell 0 3 5", "tell -1 0 5", "tell 0 -1 5", "gap 0 3 5", "gap 3 0 5", "gap 0 0 5",
                                     "gap 2 2 -5", "gap -1 0 5", "least 3 5", "most 3 5", "least -1 5", "known 2 early",
                                     "known -1 early", "clause 2 early 0 late", "clause 0 early 2 late", "kind 2", "kind -1",
                                     "kind 8", "window 3", "window -1", "order 0 3", "order 3 0", "order -1 0", "order 0 -1",
                                     "order 0 0", "order 2 2"])
        self.check_no_command(Desk(0, 0), ["kind 0", "window 0", "order 0 1", "tell 0 0 0", "least 0 0", "known 0 early"])
        self.check_no_command(Desk(1, 1), ["order 0 0", "order 0 1", "gap 0 0 0", "gap 0 1 0", "kind 1", "window 1"])

    def test_numbers_that_the_deeds_do_not_accept(self):
        desk = desk_of(self.book)
        for number in ("1000000000001", "-1000000000001", "1000000000000000", "9" * 30):
            self.check_no_command(desk, ["tell 0 0 " + number, "gap 0 1 " + number, "least 0 " + number, "most 0 " + number])

    def test_clauses_of_one_literal_are_known(self):
        desk = desk_of(self.book)
        self.check_no_command(desk, ["clause 0 late 0 late", "clause 1 early 1 early", "known 1 early 1 early", "known 1",
                                     "known late", "known 1 least", "clause 0 late 1", "clause 0 late 1 most", "known late 1",
                                     "clause late 0 late 1", "most 0 most", "kind early", "window late", "order early late"])
        self.check_lines(desk, [("clause 0 late 0 early", "done")])

    def test_no_command_ahead_of_too_many(self):
        desk, _ = full_desk("gaps")
        self.check_no_command(desk, ["gap 0 0 0", "gap 0 1 00", "gap 0 3 0", "gap 0 1 1000000000001"])


class DrawnTest(LinesTest):
    def do(self, chance, desk, model):
        """Execute a line at a desk and its model, for which it may be any; return what came of it."""
        name = chance.choice(["put"] * 6 + ["undo", "undo", "redo", "count", "kind", "order", "show"])
        if name == "put":
            sort, item = drawn_item(chance, desk.book.events, desk.book.witnesses)
            return line_of(sort, item), model.put(sort, item)
        if name in ("undo", "redo"):
            return name, getattr(model, name)()
        if name == "count":
            return name, str(len(rows_of(model.book)))
        if name == "show":
            lines = ["events {}".format(model.book.events), "witnesses {}".format(model.book.witnesses)]
            return name, "\n".join(lines + [line_of(*some) for some in items_of(model.book)])
        if name == "kind":
            w = chance.randrange(model.book.witnesses)
            return "kind {}".format(w), model.kind(w)
        a, b = chance.sample(range(model.book.events), 2)
        return "order {} {}".format(a, b), model.order(a, b)

    def test_drawn_lines(self):
        chance = Random("drawn lines")
        seen = set()
        for _ in range(20):
            sizes = chance.randint(2, 3), chance.randint(1, 3)
            desk, model = Desk(*sizes), Model(*sizes)
            for _ in range(60):
                line, came = self.do(chance, desk, model)
                if came == "too many":
                    check_raised(self, TooMany, {"limit": 20}, desk.execute, line)
                else:
                    self.check_lines(desk, [(line, came)])
                seen.add(came)
                self.assertEqual(desk.book, model.book)
        self.assertLessEqual({"done", "no fit", "nothing", "early", "late", "open", "before", "after"}, seen)

    def test_what_a_desk_tells_is_told_of_its_book(self):
        def end(number):
            return "-" if number is None else str(number)

        for book in planted_books("told", 4, slack=20, tellings=12, clauses=5):
            desk = desk_of(book)
            self.check_lines(desk, [("count", str(count_fits(book))), ("show", show_book(book))])
            self.check_lines(desk, [("kind {}".format(w), sure_kind(book, w) or "open") for w in range(8)])
            windows = [sure_window(book, e) for e in range(8)]
            self.check_lines(desk, [("window {}".format(e), end(low) + " " + end(high)) for e, (low, high) in enumerate(windows)])
            ahead = sure_order(book)
            for a, b in product(range(8), repeat=2):
                if a != b:
                    word = "before" if (a, b) in ahead else "after" if (b, a) in ahead else "open"
                    self.check_lines(desk, [("order {} {}".format(a, b), word)])
            self.assertEqual(read_book(desk.execute("show")), desk.book)

    def test_great_desks_in_good_time(self):
        book = planted_books("lines", 1)[0]
        desk = Desk(8, 8)
        for sort, item in items_of(book):
            self.assertEqual(check_quick(self, 1, desk.execute, line_of(sort, item)), "done")
        for line in ("count", "show", "kind 7", "window 7", "order 7 0", "undo", "redo"):
            check_quick(self, 1, desk.execute, line)
        self.assertEqual(desk.book, made(book, items_of(book)))


class ExamplesTest(LinesTest):
    def test_examples_of_the_document(self):
        desk = Desk(2, 2)
        lines = ["tell 0 0 5", "tell 1 0 3", "known 1 late", "most 1 -2", "least 1 0", "kind 0", "window 0", "order 0 1"]
        self.assertEqual([desk.execute(line) for line in lines],
                         ["done", "done", "done", "done", "no fit", "late", "- 3", "open"])
        lines = ["undo", "count", "gap 0 1 0", "least 1 4", "order 0 1", "show"]
        self.assertEqual([desk.execute(line) for line in lines],
                         ["done", "1", "done", "done", "before",
                          "events 2\nwitnesses 2\ntell 0 0 5\ntell 1 0 3\ngap 0 1 0\nleast 1 4\nknown 1 late"])
        self.assertEqual([read_book(show_book(desk.book)) == desk.book, show_kinds(("early", "late")), read_kinds("none")],
                         [True, "early late", ()])


if __name__ == "__main__":
    unittest.main()
