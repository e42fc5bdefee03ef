"""The section "The interface": names, arguments, and the files in which they are defined."""

import ast
import os
import unittest

PACKAGE = os.path.join(os.path.dirname(os.path.dirname(os.path.abspath(__file__))), "earlyorlate")

FUNCTIONS = {
    "words.py": {
        "is_integer": "thing",
        "is_number": "thing",
        "is_kind": "thing",
        "contrary": "kind",
        "turned_literal": "literal",
    },
    "ways.py": {
        "is_way": "book, a, b, thing",
        "ring": "book",
        "way": "book, a, b",
    },
    "links.py": {
        "event_of": "book, source",
        "number_of": "book, source",
        "is_link": "book, thing",
        "link": "book, start, end",
        "bounds_link": "book",
    },
    "steps.py": {
        "is_step": "book, thing",
        "step": "book, one, other",
        "implied": "book, one",
        "closure": "book, one",
        "steps_to": "book, one, other",
    },
    "reasons.py": {
        "is_reason": "book, thing",
        "reason": "book",
    },
    "fits.py": {
        "explained": "book",
        "has_fit": "book",
        "fits": "book, kinds",
        "is_explanation": "book, thing",
    },
    "times.py": {
        "least_times": "book, kinds",
        "greatest_times": "book, kinds",
        "times_for": "book, kinds",
    },
    "sure.py": {
        "kinds_of": "book, w",
        "sure_kind": "book, w",
        "sure_kinds": "book",
        "why_kind": "book, w, kind",
        "groups": "book",
    },
    "orders.py": {
        "sure_gap": "book, a, b",
        "sure_window": "book, e",
        "sure_order": "book",
        "why_gap": "book, a, b, g",
        "why_bound": "book, e, side, x",
    },
    "spans.py": {
        "times_of": "book, e",
        "gaps_of": "book, a, b",
        "at_time": "book, e, x",
        "at_gap": "book, a, b, d",
        "why_never": "book, e, low, high",
        "why_no_gap": "book, a, b, low, high",
    },
    "lattice.py": {
        "median": "one, two, three",
        "joined": "one, other",
        "met": "one, other",
        "fewest_early": "book",
        "most_early": "book",
    },
    "counted.py": {
        "count_fits": "book",
        "early_counts": "book",
    },
    "news.py": {
        "word_of": "book, w, e, x",
        "late_from": "book, w, e",
        "early_to": "book, w, e",
        "news_of": "book, w, e",
        "settles": "book, w, e, x",
    },
    "struck.py": {
        "chain": "book",
        "is_chain": "book, thing",
        "struck_for": "book",
        "is_struck": "book, thing",
    },
    "aside.py": {
        "witnesses_of": "book, reason",
        "aside_for": "book",
        "is_aside": "book, thing",
        "clashes": "book",
        "repairs": "book",
        "is_clash": "book, thing",
        "is_repair": "book, thing",
    },
    "strong.py": {
        "strong_gap": "book, a, b, g",
        "strong_bound": "book, e, side, x",
        "enough_gap": "book, a, b, g",
        "enough_bound": "book, e, side, x",
    },
    "clocks.py": {
        "shifted": "book, others, shift",
        "shift_stretch": "book, others, kinds",
    },
    "shifts.py": {
        "pieces": "book, others",
        "holes": "book, others",
        "shift_stretches": "book, others",
        "are_pieces": "book, others, thing",
        "are_holes": "book, others, thing",
        "is_clock_paper": "book, others, some_pieces, some_holes",
    },
    "compared.py": {
        "implies": "one, other",
        "parting": "one, other",
        "alike": "one, other",
        "contraries": "book, sort, item",
        "whys": "one, other",
        "are_whys": "one, other, thing",
    },
    "needless.py": {
        "needless": "book",
        "least_book": "book",
        "is_least_book": "book, thing",
    },
    "asks.py": {
        "agreeing": "book, stand",
        "open_witnesses": "book, stand",
        "best_ask": "book, stand",
        "plan": "book",
        "questions": "book",
        "ask_table": "book",
        "is_plan": "book, thing",
        "is_ask_table": "book, thing",
        "depth": "plan",
    },
    "notation.py": {
        "show_book": "book",
        "show_kinds": "kinds",
        "show_times": "times",
    },
    "readers.py": {
        "read_book": "text",
        "read_kinds": "text",
        "read_times": "text",
    },
}

CLASSES = {
    "errors.py": {
        "CaseError": {"__init__": "self, *values"},
        "Wrong": {"__init__": "self, place"},
        "BadItem": {"__init__": "self, place, index"},
        "TooMany": {"__init__": "self, limit"},
        "NoFit": {"__init__": "self, reason"},
        "NoHelp": {"__init__": "self, reason"},
        "NotPlain": {"__init__": "self, index"},
        "NoKinds": {"__init__": "self, kinds"},
        "NoIndex": {"__init__": "self, index"},
        "Unequal": {"__init__": "self, one, other"},
        "NoText": {"__init__": "self, line"},
        "NoCommand": {"__init__": "self, line"},
        "Nothing": {"__init__": "self"},
    },
    "books.py": {
        "Book": {
            "__init__": "self, events, witnesses, tellings=(), gaps=(), sure=(), clauses=()",
            "__eq__": "self, other",
            "events": "self",
            "witnesses": "self",
            "tellings": "self",
            "gaps": "self",
            "sure": "self",
            "clauses": "self",
            "is_plain": "self",
            "told_by": "self, w",
            "with_telling": "self, w, e, x",
            "with_gap": "self, a, b, g",
            "with_sure": "self, e, side, x",
            "with_clause": "self, w, kind, v, other",
            "with_known": "self, w, kind",
            "without": "self, part, index",
            "struck": "self, witnesses",
            "moved": "self, by",
            "turned": "self",
            "renamed": "self, events, witnesses",
            "both": "self, other",
        },
    },
    "counted.py": {
        "Fits": {
            "__init__": "self, book",
            "__len__": "self",
            "__iter__": "self",
            "__contains__": "self, x",
            "__getitem__": "self, at",
            "source": "self",
            "number_of": "self, thing",
        },
    },
    "desk.py": {
        "Desk": {
            "__init__": "self, events, witnesses",
            "book": "self",
            "tell": "self, w, e, x",
            "gap": "self, a, b, g",
            "bound": "self, e, side, x",
            "clause": "self, w, kind, v, kind2",
            "drop": "self, sort, index",
            "undo": "self",
            "redo": "self",
            "execute": "self, line",
            "copied": "self",
        },
    },
}


def parsed(name):
    with open(os.path.join(PACKAGE, name), encoding="utf-8") as source:
        return ast.parse(source.read())


def arguments_of(body):
    """The arguments of the functions that are defined in a body, by name."""
    return {row.name: ast.unparse(row.args) for row in body if isinstance(row, ast.FunctionDef)}


class InterfaceTest(unittest.TestCase):
    def test_functions(self):
        for name, functions in FUNCTIONS.items():
            found = arguments_of(parsed(name).body)
            for function, arguments in functions.items():
                self.assertEqual(found.get(function), arguments, function)

    def test_classes_and_their_own_methods(self):
        for name, classes in CLASSES.items():
            bodies = {row.name: row.body for row in parsed(name).body if isinstance(row, ast.ClassDef)}
            for made, methods in classes.items():
                found = arguments_of(bodies[made])
                for method, arguments in methods.items():
                    self.assertEqual(found.get(method), arguments, (made, method))


if __name__ == "__main__":
    unittest.main()
