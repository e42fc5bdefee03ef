"""What the document says of chains and of striking, word by word, told apart from the program: for small books."""

from itertools import permutations
from random import Random

from earlyorlate.fits import has_fit
from tests.helper import KINDS
from tests.oracle import all_steps, is_true_step, judge_of_steps, mixed_books, plain, rows_of, sets_of

E, L = "early", "late"


def literals_of(steps):
    """The literals that steps lead through, or None if one does not begin where the one ahead ends."""
    met = [steps[0][0]] + [other for _, _, other in steps]
    return met if met[:-1] == [one for one, _, _ in steps] else None


def is_chain_of(met):
    """Whether these literals are those of a chain."""
    between = [w for w, kind in met[1:-1] if kind == E]
    return (len(met) > 2 and len(between) == len(met) - 2 == len(set(between))
            and met[0] == (between[0], L) and met[-1] == (between[-1], L))


def is_true_chain(book, thing):
    """Whether a list of steps of the right form is a chain."""
    return all(is_true_step(book, some) for some in thing) and literals_of(thing) is not None and is_chain_of(
        literals_of(thing))


def judge_of_chains(book, most_gaps=4):
    """A function that tells of any value whether it is a chain whose ways have at most so many gaps."""
    is_right_step = judge_of_steps(book, most_gaps)
    return lambda thing: (thing.__class__ is list and len(thing) > 1 and all(is_right_step(some) for some in thing)
                          and literals_of(thing) is not None and is_chain_of(literals_of(thing)))


def shortest(book):
    """How many steps a shortest chain has, by going through all rows of witnesses; None if there is none."""
    led = {(one, other) for one, _, other in all_steps(book, book.events)}
    for many in range(1, book.witnesses + 1):
        for row in permutations(range(book.witnesses), many):
            met = [(row[0], L)] + [(w, E) for w in row] + [(row[-1], L)]
            if all(pair in led for pair in zip(met, met[1:])):
                return many + 1
    return None


def can_be_helped(book):
    """Whether the book has an explanation when all witnesses are struck."""
    return bool(rows_of(book.struck(list(range(book.witnesses)))))


def fewest(book):
    """How few witnesses must be struck, by going through all sets."""
    return min([len(some) for some in sets_of(book) if rows_of(book.struck(list(some)))])


def fewest_of_many(book):
    """The same for greater books, for which the oracle is too slow."""
    return next(len(some) for some in sets_of(book) if has_fit(book.struck(list(some))))


def named(steps):
    return {w for one, _, other in steps for w, _ in (one, other)}


def pairs(*rows, known=(), never=()):
    """Clauses: of each pair (w, v) that v is early if w is; who is known to be early, and who is not."""
    return ([(w, L, v, E) for w, v in rows] + [(w, E, w, E) for w in known] + [(w, L, w, L) for w in never])


def known_books(seed, many, knowns, **more):
    """Plain books in which some kinds are known, by as many clauses, and which can be helped."""
    chance = Random(seed)
    books = []
    while len(books) < many:
        book = plain(mixed_books(f"{seed} {chance.random()}", 1, **more)[0])
        for _ in range(chance.randint(*knowns)):
            book = book.with_known(chance.randrange(book.witnesses), chance.choice(KINDS))
        if can_be_helped(book):
            books.append(book)
    return books
