"""What the document says of shifts, pieces and holes, word by word, told apart from the program."""

from random import Random

from tests.oracle import CONTRARY, ends_of, is_true_reason, judge_of_reasons, rows_of

FAR = 10 ** 30


class AnyBook:
    """What a Book is, with numbers of any size."""

    def __init__(self, events, witnesses, tellings, gaps, sure, clauses):
        self.events, self.witnesses = events, witnesses
        self.tellings, self.gaps, self.sure, self.clauses = tuple(tellings), gaps, sure, clauses

    def turned(self):
        sides = {"least": "most", "most": "least"}
        return AnyBook(self.events, self.witnesses, [(w, e, -x) for w, e, x in self.tellings],
                       tuple((b, a, g) for a, b, g in self.gaps), tuple((e, sides[side], -x) for e, side, x in self.sure),
                       tuple((w, CONTRARY[kind], v, CONTRARY[other]) for w, kind, v, other in self.clauses))


def at_shift(book, others, shift):
    """What shifted returns, for any integer."""
    told = [(w, e, x - shift if w in others else x) for w, e, x in book.tellings]
    return AnyBook(book.events, book.witnesses, told, book.gaps, book.sure, book.clauses)


def fit_at(book, others, shift, kinds):
    """Whether these kinds fit with a shift."""
    return ends_of(at_shift(book, others, shift), kinds) is not None


def fits_at(book, others, shift):
    """Whether a shift fits, by going through all kinds."""
    return bool(rows_of(at_shift(book, others, shift)))


def contains(stretch, shift):
    low, high = stretch
    return (low is None or low <= shift) and (high is None or shift <= high)


def shifts_beside(ends):
    """The ends themselves, those beside them, and some that are far off."""
    known = {end for end in ends if end is not None}
    return sorted({end + by for end in known for by in (-1, 0, 1)} | {-FAR, -10 ** 13, 0, 10 ** 13, FAR})


def some_of(book, seed):
    """Some of the witnesses, as a list or as a tuple."""
    chance = Random(seed)
    found = [w for w in range(book.witnesses) if chance.random() < 0.6]
    return found if chance.random() < 0.5 else tuple(found)


def is_an_end(thing):
    return thing is None or thing.__class__ is int


def are_in_order(thing):
    """Whether a value is a list of tuples (low, high, some value), each behind the one ahead."""
    if thing.__class__ is not list or any(row.__class__ is not tuple or len(row) != 3 for row in thing):
        return False
    if any(not is_an_end(low) or not is_an_end(high) for low, high, _ in thing):
        return False
    if any(low is not None and high is not None and low > high for low, high, _ in thing):
        return False
    pairs = list(zip(thing, thing[1:]))
    return all(one[1] is not None and other[0] is not None and other[0] > one[1] for one, other in pairs)


def tried(low, high):
    """Shifts of a stretch: all if there are few, otherwise both ends, or shifts far off, and some between."""
    low = -FAR if low is None else low
    high = FAR if high is None else high
    if high - low < 40:
        return range(low, high + 1)
    between = [shift for shift in range(-30, 31) if low <= shift <= high]
    return [low, low + 1, (low + high) // 2, high - 1, high] + between


def are_right_pieces(book, others, thing):
    """Whether a value is pieces, of books with small numbers."""
    def is_right(low, high, kinds):
        if kinds.__class__ is not tuple or len(kinds) != book.witnesses:
            return False
        if any(kind.__class__ is not str or kind not in CONTRARY for kind in kinds):
            return False
        return all(fit_at(book, others, shift, kinds) for shift in tried(low, high))
    return are_in_order(thing) and all(is_right(*row) for row in thing)


def are_true_holes(book, others, thing):
    """Whether a list of the right form, with reasons of the right form, is holes, of books with small numbers."""
    def is_right(low, high, reason):
        return all(is_true_reason(at_shift(book, others, shift), reason) for shift in tried(low, high))
    return are_in_order(thing) and all(is_right(*row) for row in thing)


def judge_of_holes(book, others, most_gaps=4):
    """A function that tells of any value whether it is holes with ways of at most so many gaps."""
    judges = {}

    def judge_at(shift):
        if shift not in judges:
            judges[shift] = judge_of_reasons(at_shift(book, others, shift), most_gaps)
        return judges[shift]

    def is_right(low, high, reason):
        return all(judge_at(shift)(reason) for shift in tried(low, high))

    return lambda thing: are_in_order(thing) and all(is_right(*row) for row in thing)
