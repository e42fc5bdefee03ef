"""What is answered to a line that asks something of a book."""

from earlyorlate.counted import count_fits
from earlyorlate.items import is_below
from earlyorlate.notation import show_book
from earlyorlate.orders import sure_window, why_gap
from earlyorlate.sure import sure_kind
from earlyorlate.written import integer_of


def answer_to(book, line):
    """Return the string that answers a line, or None if it asks nothing."""
    if line == "count":
        return str(count_fits(book))
    if line == "show":
        return show_book(book)
    word, *rest = line.split(" ")
    numbers = [integer_of(some) for some in rest]
    if word == "kind" and _are_below(numbers, 1, book.witnesses):
        return _kind(book, numbers[0])
    if word == "window" and _are_below(numbers, 1, book.events):
        return _window(book, numbers[0])
    if word == "order" and _are_below(numbers, 2, book.events) and numbers[0] != numbers[1]:
        return _order(book, numbers[0], numbers[1])
    return None


def _are_below(numbers, many, limit):
    return len(numbers) == many and all([is_below(number, limit) for number in numbers])


def _kind(book, w):
    kind = sure_kind(book, w)
    if kind is None:
        return "open"
    return kind


def _window(book, e):
    low, high = sure_window(book, e)
    return f"{_end(low)} {_end(high)}"


def _end(number):
    if number is None:
        return "-"
    return str(number)


def _order(book, a, b):
    if why_gap(book, a, b, 1) is not None:
        return "before"
    if why_gap(book, b, a, 1) is not None:
        return "after"
    return "open"
