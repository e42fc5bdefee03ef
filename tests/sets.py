"""What the document says of sets of witnesses that are struck, word by word: for small books, and slow."""

from earlyorlate.fits import has_fit
from tests.oracle import least_sets, mixed_books, rows_of, sets_of

E, L = "early", "late"


def named(reason):
    """The witnesses that a reason names."""
    return {w for one, _, other in reason[1] for w, _ in (one, other)} if reason[0] == "kinds" else set()


def fits_when_struck(book, some):
    return bool(rows_of(book.struck(list(some))))


def others(book, some):
    return tuple(w for w in range(book.witnesses) if w not in some)


def all_clashes(book, fits=fits_when_struck):
    """All clashes, by going through all sets."""
    return least_sets([some for some in sets_of(book) if not fits(book, others(book, some))])


def all_repairs(book, fits=fits_when_struck):
    return least_sets([some for some in sets_of(book) if fits(book, some)])


def fewest_to_meet(book, sets):
    """How few witnesses meet all of these sets, or None if none do."""
    return min([len(some) for some in sets_of(book) if all(set(some) & set(other) for other in sets)], default=None)


def quick_fits(book, some):
    """What fits_when_struck tells, for greater books, for which the oracle is too slow."""
    return has_fit(book.struck(list(some)))


def aside_books(seed, many, knowns=2, **more):
    """Books as they come, with some clauses and tellings that contradict one another."""
    books = []
    for at, book in enumerate(mixed_books(seed, many, **more)):
        for w in range(min(knowns, book.witnesses)):
            book = book.with_known(w, (E, L)[(at >> w) % 2])
        books.append(book)
    return books
