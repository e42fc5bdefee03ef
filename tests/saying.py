"""What the document says of books that say the same, word by word, told apart from the program: for small books."""

from itertools import product
from random import Random

from earlyorlate.books import Book
from tests.oracle import CONTRARY, all_kinds, holds, some_fit

PARTS = ("tellings", "gaps", "sure", "clauses")


def explanations(book, reach):
    """The set of all explanations with times from -reach to reach."""
    times = list(product(range(-reach, reach + 1), repeat=book.events))
    return {(kinds, some) for kinds in all_kinds(book) for some in times if holds(book, kinds, some)}


def items_of(book):
    """All items of a book, each with the word of its part, in the order of the document."""
    return [(sort, item) for sort in PARTS for item in getattr(book, sort)]


def made(book, items):
    """A Book of the same sizes with these items."""
    return Book(book.events, book.witnesses, *[[item for sort, item in items if sort == part] for part in PARTS])


def with_items(book, *items):
    return made(book, items_of(book) + list(items))


def true_contraries(book, sort, item):
    """What contraries returns, as the document has it."""
    if sort == "tellings":
        w, e, x = item
        return [with_items(book, ("clauses", (w, "early", w, "early")), ("sure", (e, "most", x - 1))),
                with_items(book, ("clauses", (w, "late", w, "late")), ("sure", (e, "least", x + 1)))]
    if sort == "gaps":
        a, b, g = item
        return [with_items(book, ("gaps", (b, a, 1 - g)))]
    if sort == "sure":
        e, side, x = item
        return [with_items(book, ("sure", (e, "most", x - 1) if side == "least" else (e, "least", x + 1)))]
    w, kind, v, other = item
    kind, other = CONTRARY[kind], CONTRARY[other]
    return [with_items(book, ("clauses", (w, kind, w, kind)), ("clauses", (v, other, v, other)))]


def is_said(book, sort, item):
    """Whether an item is sure in a book: for greater books."""
    return not any(some_fit(more) for more in true_contraries(book, sort, item))


def says_all(one, other):
    """Whether all items of other are sure in one: for greater books."""
    return all(is_said(one, sort, item) for sort, item in items_of(other))


def weaker(chance, sort, item):
    """An item that says as much or less."""
    by = chance.choice((0, 0, 1, 2))
    if sort == "gaps":
        return item[:2] + (item[2] - by,)
    if sort == "sure":
        return item[:2] + (item[2] - by if item[1] == "least" else item[2] + by,)
    return item


def pairs_of_books(seed, books):
    """Pairs of books, of which the one often says what the other says: with fewer or weaker items, or an item else."""
    chance = Random(seed)
    found = []
    for at, book in enumerate(books):
        items = items_of(book)
        kept = [(sort, weaker(chance, sort, item)) for sort, item in items if chance.random() < 0.7]
        chance.shuffle(kept)
        found.append((book, made(book, kept)))
        if items:
            out = chance.randrange(len(items))
            found.append((made(book, items[:out] + items[out + 1:]), book))
        same = [some for some in books[:at] if (some.events, some.witnesses) == (book.events, book.witnesses)]
        found += [(book, some) for some in same[-1:]]
    return found
