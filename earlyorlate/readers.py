"""Reading books, kinds and times from texts."""

from earlyorlate.books import MOST_EVENTS, MOST_WITNESSES, Book
from earlyorlate.errors import NoText
from earlyorlate.items import PARTS, is_below
from earlyorlate.words import is_kind
from earlyorlate.written import MOST_TOLD, integer_of, item_of


def _lines_of(text):
    if not isinstance(text, str):
        raise NoText(1)
    return text.split("\n")


def _size_in(lines, at, word, most):
    """Return the number, at most so great, that stands behind this word in the line with this index."""
    if at == len(lines):
        raise NoText(at + 1)
    words = lines[at].split(" ")
    size = integer_of(words[-1])
    if words[:-1] != [word] or not is_below(size, most + 1):
        raise NoText(at + 1)
    return size


def read_book(text):
    """Return the Book that is written so."""
    lines = _lines_of(text)
    events = _size_in(lines, 0, "events", MOST_EVENTS)
    witnesses = _size_in(lines, 1, "witnesses", MOST_WITNESSES)
    parts = [[] for _ in PARTS]
    last = 0
    for number, line in enumerate(lines[2:], start=3):
        told = item_of(line, events, witnesses)
        if told is None:
            raise NoText(number)
        part, item = told
        place = PARTS.index(part)
        if place < last or len(parts[place]) == MOST_TOLD:
            raise NoText(number)
        parts[place].append(item)
        last = place
    return Book(events, witnesses, *parts)


def _words_in(line):
    if line == "none":
        return []
    return line.split(" ")


def _check_only_line(lines):
    if len(lines) > 1:
        raise NoText(2)


def read_kinds(text):
    """Return the tuple of kinds that is written so."""
    lines = _lines_of(text)
    kinds = _words_in(lines[0])
    if not all([is_kind(kind) for kind in kinds]):
        raise NoText(1)
    _check_only_line(lines)
    return tuple(kinds)


def read_times(text):
    """Return the tuple of integers that is written so."""
    lines = _lines_of(text)
    times = [integer_of(word) for word in _words_in(lines[0])]
    if None in times:
        raise NoText(1)
    _check_only_line(lines)
    return tuple(times)
