"""What several test files share."""

from random import Random

from earlyorlate.books import Book

FAR = 10 ** 15

KINDS = ("early", "late")
SIDES = ("least", "most")

# None of these is an integer, a kind, a side, a list or a tuple.
NEITHER = [None, True, False, "", "0", "1", "least ", "Early", "lates", b"early", {}, {0: 1}, set(), {1}, frozenset(),
           object(), len, Book, Book(1, 1), KeyError("early")]


class SameAsAll:
    """Something that says of itself that it equals all values."""

    def __eq__(self, other):
        return True


NO_INTEGERS = NEITHER + [SameAsAll(), "early", "late", "least", "most", [], [0], (), (0,), [[]], ((0, 0, 5),)]


def out_of_range(many):
    """Values that are none of the integers from 0 to many - 1."""
    return NO_INTEGERS + [-1, -2, many, many + 1, -many - 1, 10 ** 30, -10 ** 30]


NO_NUMBERS = NO_INTEGERS + [FAR + 1, -FAR - 1, 10 ** 30, -10 ** 30, 10 ** 3000]

NO_WORDS = NEITHER + [SameAsAll(), 0, 1, -1, ["early"], ("late",), [], (), "EARLY", "late\n", "earlylate", "e",
                      "at least"]

NO_KINDS = NO_WORDS + ["least", "most"]

NO_SIDES = NO_WORDS + ["early", "late"]


def check_raised(case, error, fields, call, *arguments):
    """Check that the call raises just this error, with these fields."""
    with case.assertRaises(error) as caught:
        call(*arguments)
    case.assertIs(caught.exception.__class__, error)
    case.assertEqual(vars(caught.exception), fields)


def full_book():
    """A Book of the greatest sizes in which each part has one item."""
    return Book(8, 8, [(7, 0, 5)], [(0, 7, -3)], [(7, "most", 6)], [(7, "early", 0, "late")])


def some_books(seed, many, most_events=5, most_gaps=9, least=-6, most=3):
    """Books with gaps alone; the seed tells which."""
    chance = Random(seed)
    books = []
    for _ in range(many):
        events = chance.randint(2, most_events)
        gaps = []
        for _ in range(chance.randint(0, most_gaps)):
            a, b = chance.sample(range(events), 2)
            gaps.append((a, b, chance.randint(least, most)))
        books.append(Book(events, 0, [], gaps))
    return books


def sum_of(book, indexes):
    """The sum of a way."""
    return sum(book.gaps[index][2] for index in indexes)


def is_walk(book, a, b, indexes):
    """Whether the indexes lead from a to b, told apart from the program's own is_way."""
    stops = [a] + [book.gaps[index][1] for index in indexes]
    starts = [book.gaps[index][0] for index in indexes] + [b]
    return stops == starts
