"""Items without which a book says the same."""

from earlyorlate.books import Book
from earlyorlate.compared import implies, says
from earlyorlate.items import PARTS


def _is_needless(book, sort, index):
    return says(book.without(sort, index), sort, book.items_in(sort)[index])


def needless(book):
    """Return the list of the tuples (sort, index) of the items without which, each by itself, the book is alike."""
    places = [(sort, index) for sort in PARTS for index in range(len(book.items_in(sort)))]
    return [(sort, index) for sort, index in places if _is_needless(book, sort, index)]


def least_book(book):
    """Return a Book that is alike, with some of the items, none of which is needless."""
    least = book
    for sort in PARTS:
        # From the end on, so that the indexes of those ahead stay. Who is needed now is needed with fewer, too.
        for index in reversed(range(len(book.items_in(sort)))):
            if _is_needless(least, sort, index):
                least = least.without(sort, index)
    return least


def is_least_book(book, thing):
    """Return whether thing, any value, is a Book that is alike, with some of the items, none of which is needless."""
    if not isinstance(thing, Book) or thing.events != book.events or thing.witnesses != book.witnesses:
        return False
    if not all([_are_some_of(thing.items_in(sort), book.items_in(sort)) for sort in PARTS]):
        return False
    return implies(thing, book) and needless(thing) == []


def _are_some_of(some, items):
    """Return whether some are left of these items if others are taken out."""
    found = 0
    for item in items:
        if found < len(some) and some[found] == item:
            found += 1
    return found == len(some)
