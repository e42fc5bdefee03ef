"""[101] readers, with [2], [3] and [4]."""

import unittest

from earlyorlate.books import Book
from earlyorlate.errors import NoText
from earlyorlate.notation import show_book
from earlyorlate.readers import read_book, read_kinds, read_times
from tests.helper import NEITHER, SameAsAll, check_raised
from tests.oracle import mixed_books

E, L = "early", "late"
GREAT = "1000000000000"

NO_STRINGS = [thing for thing in NEITHER if not isinstance(thing, str)] + [
    SameAsAll(), 0, 1, -1, 10 ** 30, [], (), ["none"], ("events 0", "witnesses 0"), ["events 0\nwitnesses 0"],
    b"events 0\nwitnesses 0", NoText(1), {"none": "none"}]

# None of these is an integer as it is written.
NO_INTEGERS = ["", "+1", "-0", "00", "01", "-01", "1.", "1.0", "1e3", "0x1", "1_0", "--1", "1-", "- 1", "a", "early", "None",
               "True", "-", "(1)", "1,", "'1'", "~", "!", "0\\n", "1/1", "1:", "/", ":"]


class ReadTest(unittest.TestCase):
    call = None

    def check_no_text(self, texts, line):
        for text in texts:
            with self.subTest(text=text):
                check_raised(self, NoText, {"line": line}, self.__class__.call, text)

    def check_blanks(self, text, line):
        """Check a text with a blank more or less somewhere in this line, counted from 1."""
        lines = text.split("\n")
        good = lines[line - 1]
        bad = [" " + good, good + " "] + [good[:at] + " " + good[at:] for at, sign in enumerate(good) if sign == " "]
        bad += [good[:at] + good[at + 1:] for at, sign in enumerate(good) if sign == " "]
        for row in bad:
            self.check_no_text(["\n".join(lines[:line - 1] + [row] + lines[line:])], line)


class BookTest(ReadTest):
    call = read_book
    lines = ["events 3", "witnesses 2", "tell 0 2 5", "tell 1 0 -5", "gap 0 1 0", "gap 2 0 -10", "most 1 7", "least 0 -7",
             "clause 0 early 1 late", "known 1 late", "clause 1 early 0 early"]

    def with_line(self, number, line):
        """The text with this line in the place of the one with this number, counted from 1."""
        return "\n".join(self.lines[:number - 1] + [line] + self.lines[number:])

    def test_a_text(self):
        found = read_book("\n".join(self.lines))
        self.assertIs(found.__class__, Book)
        self.assertEqual(found, Book(3, 2, [(0, 2, 5), (1, 0, -5)], [(0, 1, 0), (2, 0, -10)], [(1, "most", 7), (0, "least", -7)],
                                     [(0, E, 1, L), (1, L, 1, L), (1, E, 0, E)]))
        self.assertEqual(read_book("events 0\nwitnesses 8"), Book(0, 8))
        self.assertEqual(read_book("events 8\nwitnesses 0"), Book(8, 0))

    def test_no_string(self):
        self.check_no_text(NO_STRINGS, 1)

    def test_each_part_of_the_text_alone(self):
        for many in range(2, len(self.lines) + 1):
            self.assertEqual(show_book(read_book("\n".join(self.lines[:many]))), "\n".join(self.lines[:many]))

    def test_a_text_that_ends_too_early(self):
        self.check_no_text(["events 0", "events 3"], 2)
        self.check_no_text(["", "\n", "\nwitnesses 2"], 1)

    def test_the_first_two_lines(self):
        for bad in NO_INTEGERS + ["9", "10", "-1", "8 ", " 8", "8 8", GREAT, "9" * 5000]:
            self.check_no_text(["events " + bad, "events " + bad + "\nwitnesses 0", "events " + bad + "\nwitness 0"], 1)
            self.check_no_text(["events 3\nwitnesses " + bad, "events 3\nwitnesses " + bad + "\ntell 0 0 0"], 2)
        self.check_no_text(["events", "event 3", "Events 3", "events3", "witnesses 3\nevents 2", "3", "none", "events 3 "], 1)
        self.check_no_text(["events 3\nevents 3", "events 3\nwitness 2", "events 3\ntell 0 0 0", "events 3\nwitnesses",
                            "events 3\nWITNESSES 2", "events 3\n", "events 3\n\nwitnesses 2", "events 3\n 2"], 2)

    def test_integers_otherwise(self):
        for bad in NO_INTEGERS:
            for number, line in ((3, "tell {} 2 5"), (3, "tell 0 {} 5"), (3, "tell 0 2 {}"), (5, "gap {} 1 0"), (5, "gap 0 {} 0"),
                                 (5, "gap 0 1 {}"), (7, "most {} 7"), (7, "most 1 {}"), (8, "least {} -7"), (8, "least 0 {}"),
                                 (9, "clause {} early 1 late"), (9, "clause 0 early {} late"), (10, "known {} late")):
                self.check_no_text([self.with_line(number, line.format(bad))], number)

    def test_events_and_witnesses_that_there_are_not(self):
        for number, line in ((3, "tell 2 2 5"), (3, "tell 0 3 5"), (3, "tell -1 2 5"), (3, "tell 0 -1 5"), (5, "gap 3 1 0"),
                             (5, "gap 0 3 0"), (5, "gap 0 -1 0"), (7, "most 3 7"), (8, "least 3 7"), (8, "least -1 7"),
                             (9, "clause 2 early 1 late"), (9, "clause 0 early 2 late"), (9, "clause -1 early 0 late"),
                             (10, "known 2 late"), (10, "known -1 late"), (10, "known 8 late")):
            self.check_no_text([self.with_line(number, line)], number)
        self.check_no_text(["events 0\nwitnesses 1\ntell 0 0 5", "events 1\nwitnesses 0\ntell 0 0 5",
                            "events 1\nwitnesses 0\nknown 0 early", "events 0\nwitnesses 0\nleast 0 5"], 3)

    def test_numbers_up_to_the_bounds(self):
        for sign in ("", "-"):
            for number, line in ((3, "tell 0 2 "), (5, "gap 0 1 "), (7, "most 1 "), (8, "least 0 ")):
                good = self.with_line(number, line + sign + GREAT)
                self.assertEqual(show_book(read_book(good)), good)
                self.check_no_text([self.with_line(number, line + sign + bad) for bad in (
                    "1000000000001", "9999999999999", "10000000000000", "1" + "0" * 15, "9" * 40, "9" * 41, "9" * 5000)], number)

    def test_gaps_from_an_event_to_itself(self):
        self.check_no_text([self.with_line(5, line) for line in ("gap 0 0 0", "gap 1 1 -5", "gap 2 2 5")], 5)

    def test_clauses_of_one_literal_are_known(self):
        self.check_no_text([self.with_line(9, "clause 0 early 0 early"), self.with_line(9, "clause 1 late 1 late")], 9)
        self.assertEqual(read_book(self.with_line(9, "clause 0 early 0 late")).clauses[0], (0, E, 0, L))

    def test_words_otherwise(self):
        for number, lines in ((3, ["told 0 2 5", "Tell 0 2 5", "tell", "tell 0", "tell 0 2", "tell 0 2 5 5", "tell 0 2 early",
                                   "tell early 2 5", "0 2 5", "tellings 0 2 5", "tell-0 2 5", "tell\\n0 2 5"]),
                              (5, ["gaps 0 1 0", "gap 0 1", "gap 0 1 0 0", "gap", "GAP 0 1 0", "gap 0 late 1"]),
                              (7, ["bound 1 most 7", "most 1 7 7", "most 1", "most", "Most 1 7", "1 most 7", "sure 1 most 7",
                                   "most most 7", "atmost 1 7"]),
                              (9, ["clause 0 early 1", "clause 0 early", "clause 0 early 1 late 1", "clause 0 Early 1 late",
                                   "clause 0 least 1 late", "clause early 0 1 late", "clause", "clauses 0 early 1 late",
                                   "clause 0 early 1 latex", "clause 0 e 1 late", "clause 0 1 early late"]),
                              (10, ["known 1", "known late", "known 1 late late", "known 1 LATE", "known 1 1", "knows 1 late",
                                    "known late 1", "known 1 late 0 early", "known"])):
            self.check_no_text([self.with_line(number, line) for line in lines], number)

    def test_blanks(self):
        text = "\n".join(self.lines)
        for number in range(1, len(self.lines) + 1):
            self.check_blanks(text, number)

    def test_empty_lines_and_line_feeds(self):
        text = "\n".join(self.lines)
        for number in range(1, len(self.lines) + 1):
            self.check_no_text(["\n".join(self.lines[:number - 1] + [""] + self.lines[number - 1:])], number)
            self.check_no_text([self.with_line(number, "")], number)
            self.check_no_text(["\n".join(self.lines[:number]) + "\n"], number + 1)
        self.check_no_text([text + "\n", text + "\n\n", text + "\n ", text + "\n\ntell 0 0 0"], len(self.lines) + 1)
        self.check_no_text(["\n" + text, " \n" + text], 1)

    def test_parts_out_of_order(self):
        order = ["tell 0 2 5", "gap 0 1 0", "least 0 -7", "known 1 late"]
        for at, line in enumerate(order):
            for behind in order[:at]:
                self.check_no_text(["\n".join(["events 3", "witnesses 2", line, behind])], 4)
                self.check_no_text(["\n".join(["events 3", "witnesses 2"] + order[:at + 1] + [behind] + order[at:])], at + 4)
        for more in ("least 0 1\nmost 0 2\nleast 0 0", "clause 0 early 1 late\nknown 0 early\nclause 0 early 1 late"):
            text = "events 3\nwitnesses 2\n" + more
            self.assertEqual(show_book(read_book(text)), text)
        self.check_no_text(["events 3\nwitnesses 2\ntell 0 0 0\nwitnesses 2", "events 3\nwitnesses 2\ntell 0 0 0\nevents 3"], 4)

    def test_at_most_twenty_lines_of_each_part(self):
        parts = ["tell 0 2 5", "gap 0 1 0", "least 0 -7", "clause 0 early 1 late"]
        full = ["events 3", "witnesses 2"] + [line for line in parts for _ in range(20)]
        self.assertEqual(show_book(read_book("\n".join(full))), "\n".join(full))
        for at, line in enumerate(parts):
            many = 2 + 20 * at + 20
            self.check_no_text(["\n".join(full[:many] + [line] + full[many:]), "\n".join(full[:many] + [line])], many + 1)
            self.check_no_text(["\n".join(["events 3", "witnesses 2"] + [line] * 21)], 23)

    def test_the_first_wrong_line_is_told(self):
        self.check_no_text(["events 9\nwitnesses 9\ntell"], 1)
        self.check_no_text(["events 3\nwitnesses 9\ntell"], 2)
        self.check_no_text(["events 3\nwitnesses 2\ntell 0 0 0\ntell\n\n\n"], 4)
        self.check_no_text(["events 3\nwitnesses 2\ngap 0 1 0\ntell 0 0 0\ngap 0 0 0"], 4)

    def test_books_as_they_come_with_a_line_wrong(self):
        for book in mixed_books("read", 30, events=(1, 8), witnesses=(1, 8), items=(1, 5)):
            lines = show_book(book).split("\n")
            for at in range(len(lines)):
                wrong = lines[:at] + [lines[at] + "x"] + lines[at + 1:]
                self.check_no_text(["\n".join(wrong), "\n".join(wrong[:at + 1])], at + 1)


class KindsTest(ReadTest):
    call = read_kinds

    def test_kinds(self):
        for text, kinds in (("none", ()), ("early", (E,)), ("late", (L,)), ("late early late", (L, E, L)),
                            (" ".join([E, L] * 50), (E, L) * 50)):
            self.assertEqual(read_kinds(text), kinds)
            self.assertIs(read_kinds(text).__class__, tuple)

    def test_no_text(self):
        self.check_no_text(NO_STRINGS, 1)
        self.check_no_text(["", " ", "\n", "\nearly", "Early", "early,late", "early  late", " early", "late ", "none none",
                            "none early", "early none", "earlylate", "e", "0", "None", "NONE", " none", "none ", "early least",
                            "early late\\n", "\nnone", "x\ny", "\n\n", "early \nlate"], 1)
        self.check_no_text(["none\n", "early\n", "early late\nearly", "none\nnone", "early\n\n", "early\nx", "late\n "], 2)


class TimesTest(ReadTest):
    call = read_times

    def test_times(self):
        for text, times in (("none", ()), ("0", (0,)), ("-1", (-1,)), ("10 -20 0 0", (10, -20, 0, 0)), ("9" * 40, (10 ** 40 - 1,)),
                            ("-" + "9" * 40 + " 1", (1 - 10 ** 40, 1)), ("1" + "0" * 39, (10 ** 39,)),
                            (" ".join(str(at) for at in range(-50, 50)), tuple(range(-50, 50)))):
            found = read_times(text)
            self.assertEqual(found, times)
            self.assertEqual([found.__class__] + [time.__class__ for time in found], [tuple] + [int] * len(times))

    def test_no_text(self):
        self.check_no_text(NO_STRINGS, 1)
        self.check_no_text(NO_INTEGERS, 1)
        self.check_no_text(["5 " + bad for bad in NO_INTEGERS] + [bad + " 5" for bad in NO_INTEGERS], 1)
        self.check_no_text([" 5", "5 ", "5  6", "none 5", "5 none", "none none", "NONE", "\n", "\n5", "", " ", "x\n5", "5 \n6"], 1)
        self.check_no_text(["5\n", "5 6\n7", "none\n", "none\nnone", "5\n\n", "5\nx", "0\n "], 2)

    def test_integers_of_more_than_forty_digits(self):
        self.check_no_text([sign + digits for sign in ("", "-") for digits in ("1" + "0" * 40, "9" * 41, "9" * 5000, "0" * 41,
                                                                                 "0" + "9" * 40, "0" * 40)], 1)
        self.check_no_text(["1 " + "9" * 41, "9" * 41 + " 1", "9" * 41 + "\n"], 1)


if __name__ == "__main__":
    unittest.main()
