"""Checks that several test files share."""

from copy import deepcopy
from time import process_time

from earlyorlate.books import Book
from earlyorlate.errors import NoFit, NoHelp
from earlyorlate.reasons import is_reason
from tests.oracle import is_true_reason


def _check_reason_raised(case, error, book, call, arguments):
    with case.assertRaises(error) as caught:
        call(book, *arguments)
    case.assertIs(caught.exception.__class__, error)
    case.assertEqual(list(vars(caught.exception)), ["reason"])
    found = caught.exception.reason
    case.assertTrue(is_true_reason(book, found), found)
    case.assertIs(is_reason(book, found), True)
    return found


def check_no_fit(case, book, call, *arguments):
    """Check that call(book, ..) raises NoFit with a reason of the book."""
    _check_reason_raised(case, NoFit, book, call, arguments)


def check_no_help(case, book, call):
    """Check that call(book) raises NoHelp with a reason of the book that names nobody."""
    found = _check_reason_raised(case, NoHelp, book, call, ())
    case.assertIn(found[0], ("gaps", "bounds"))


def bare_books():
    """Books with 3 events and 2 witnesses that have a reason which names nobody."""
    tellings = [(0, 0, 5), (1, 1, 3), (0, 1, 9)]
    clauses = [(0, "early", 1, "late"), (0, "early", 0, "early")]
    sure = [(0, "least", 7), (1, "most", 9)]
    return [Book(3, 2, tellings, [(0, 1, 3), (1, 0, -2)], sure, clauses),
            Book(3, 2, tellings, [(1, 2, 5), (2, 1, -4)], sure, clauses),
            Book(3, 2, tellings, [(0, 1, 3), (1, 0, -3)], sure, clauses),
            Book(3, 2, tellings, [], sure + [(0, "most", 6)], clauses),
            Book(3, 2, [], [], [(2, "most", -10 ** 12), (2, "least", 10 ** 12)])]


def unfit_books():
    """Plain Books with 3 events and 2 witnesses without an explanation: those, and some whose reasons name somebody."""
    sure = [(0, "least", 6), (0, "most", 8)]
    known = [(1, "early", 1, "early"), (1, "late", 1, "late")]
    return bare_books() + [Book(3, 2, [(0, 0, 5), (0, 0, 9)], [], sure), Book(3, 2, [], [], [], known),
                           Book(3, 2, [(0, 0, 5), (1, 1, 7), (1, 2, 9)], [(0, 1, 2)], sure,
                                [(0, "late", 1, "early"), (1, "late", 1, "late"), (0, "early", 0, "early")])]


def spoil(thing):
    """Empty all lists and dicts in what was returned."""
    if isinstance(thing, (list, tuple)):
        for part in thing:
            spoil(part)
    if isinstance(thing, dict):
        for part in thing.values():
            spoil(part)
    if isinstance(thing, (list, dict)):
        thing.clear()


def check_unchanged(case, book, *calls):
    """Check that each call(book) leaves the book as it is, and returns the same, whatever becomes of a result."""
    made = Book(book.events, book.witnesses, book.tellings, book.gaps, book.sure, book.clauses)
    for call in calls:
        first = call(book)
        kept = deepcopy(first)
        case.assertEqual(call(book), kept)
        spoil(first)
        case.assertEqual(call(book), kept)
        case.assertEqual(book, made)


def check_passed_stays(case, call, *arguments):
    """Check that a call changes nothing of what it is passed, and returns the same again."""
    kept = deepcopy(arguments)
    first = call(*arguments)
    case.assertEqual(call(*arguments), first)
    case.assertEqual(arguments, kept)


def check_quick(case, seconds, call, *arguments):
    """Check that a call takes no more time than so much, and return what it returns."""
    begun = process_time()
    found = call(*arguments)
    case.assertLess(process_time() - begun, seconds, (call.__name__, arguments))
    return found
