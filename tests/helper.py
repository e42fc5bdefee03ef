"""What several test files share."""

from random import Random

from earlyorlate.books import Book
from earlyorlate.errors import NoFit

FAR = 10 ** 15

KINDS = ("early", "late")
SIDES = ("least", "most")

# None of these is an integer, a kind, a side, a list or a tuple.
NEITHER = [None, True, False, "", "0", "1", "least ", "Early", "lates", b"early", {}, {0: 1}, set(), {1}, frozenset(),
           object(), len, Book, Book(1, 1), KeyError("early")]


class SameAsAll:
    """Something that says of itself that it equals all values."""

    def __eq__(self, other):
        return True


NO_INTEGERS = NEITHER + [SameAsAll(), "early", "late", "least", "most", [], [0], (), (0,), [[]], ((0, 0, 5),)]


def out_of_range(many):
    """Values that are none of the integers from 0 to many - 1."""
    return NO_INTEGERS + [-1, -2, many, many + 1, -many - 1, 10 ** 30, -10 ** 30]


NO_NUMBERS = NO_INTEGERS + [FAR + 1, -FAR - 1, 10 ** 30, -10 ** 30, 10 ** 3000]

NO_WORDS = NEITHER + [SameAsAll(), 0, 1, -1, ["early"], ("late",), [], (), "EARLY", "late\n", "earlylate", "e",
                      "at least"]

NO_KINDS = NO_WORDS + ["least", "most"]

NO_SIDES = NO_WORDS + ["early", "late"]


def check_raised(case, error, fields, call, *arguments):
    """Check that the call raises just this error, with these fields."""
    with case.assertRaises(error) as caught:
        call(*arguments)
    case.assertIs(caught.exception.__class__, error)
    case.assertEqual(vars(caught.exception), fields)


def full_book():
    """A Book of the greatest sizes in which each part has one item."""
    return Book(8, 8, [(7, 0, 5)], [(0, 7, -3)], [(7, "most", 6)], [(7, "early", 0, "late")])


def some_books(seed, many, most_events=5, most_gaps=9, least=-6, most=3):
    """Books with gaps alone; the seed tells which."""
    chance = Random(seed)
    books = []
    for _ in range(many):
        events = chance.randint(2, most_events)
        gaps = []
        for _ in range(chance.randint(0, most_gaps)):
            a, b = chance.sample(range(events), 2)
            gaps.append((a, b, chance.randint(least, most)))
        books.append(Book(events, 0, [], gaps))
    return books


def check_no_fit_by_gaps(case, book, call, *arguments):
    """Check that call(book, ..) raises NoFit(("gaps", way)) with a way around, of a sum above 0."""
    with case.assertRaises(NoFit) as caught:
        call(book, *arguments)
    case.assertIs(caught.exception.__class__, NoFit)
    case.assertEqual(list(vars(caught.exception)), ["reason"])
    case.assertIsInstance(caught.exception.reason, tuple)
    word, around = caught.exception.reason
    case.assertEqual(word, "gaps")
    case.assertIsInstance(around, tuple)
    start = book.gaps[around[0]][0]
    case.assertEqual([start] + [book.gaps[index][1] for index in around],
                     [book.gaps[index][0] for index in around] + [start])
    case.assertGreater(sum(book.gaps[index][2] for index in around), 0)


def ring_books():
    """Books with a ring; in the last ones it is not near the events that are told of."""
    tellings = [(0, 0, 5), (1, 1, 3), (0, 1, 9)]
    sure = [(0, "least", 7), (0, "most", 6), (1, "most", 9)]
    clauses = [(0, "early", 1, "late"), (0, "early", 0, "early")]
    rings = ([(0, 1, 3), (1, 0, -2)], [(0, 1, 1), (1, 0, 0)], [(2, 3, FAR), (3, 2, 1 - FAR)],
             [(1, 2, -4), (2, 3, 5), (3, 2, -4)])
    return [Book(4, 2, tellings, gaps, sure, clauses) for gaps in rings]
