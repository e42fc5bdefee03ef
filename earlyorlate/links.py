"""Sources, and links of two sources that cannot both be right."""

from earlyorlate.items import is_below
from earlyorlate.ways import is_way, sum_of, sure_ways
from earlyorlate.words import is_headed, is_tuple


def event_of(book, source):
    """Return the event of a source."""
    word, index = source
    if word == "told":
        return book.tellings[index][1]
    return book.sure[index][0]


def number_of(book, source):
    """Return the number of a source."""
    word, index = source
    if word == "told":
        return book.tellings[index][2]
    return book.sure[index][2]


def witness_of(book, source):
    """Return the witness of a telling, or None for a bound."""
    word, index = source
    if word == "told":
        return book.tellings[index][0]
    return None


def _is_source(book, side, thing):
    """Return whether thing, any value, is a floor, for the side "least", or a ceiling, for "most"."""
    if is_headed(thing, "told"):
        return is_below(thing[1], len(book.tellings))
    if is_headed(thing, "sure"):
        return is_below(thing[1], len(book.sure)) and book.sure[thing[1]][1] == side
    return False


def is_link(book, thing):
    """Return whether thing, any value, is a link."""
    if not is_tuple(thing, 3):
        return False
    start, indexes, end = thing
    if not _is_source(book, "least", start) or not _is_source(book, "most", end):
        return False
    return is_way(book, event_of(book, start), event_of(book, end), indexes) and excess_of(book, thing) > 0


def excess_of(book, path):
    """Return by how much the number of a floor plus the sum of a way is greater than the number of a ceiling.

    path is a tuple of these three; it is a link if this is above 0.
    """
    start, indexes, end = path
    return number_of(book, start) + sum_of(book, indexes) - number_of(book, end)


def _sources(book, side):
    """Return a list with a tuple (source, event, number) for each floor, or for each ceiling."""
    told = [(("told", index), e, x) for index, (_, e, x) in enumerate(book.tellings)]
    sure = [(("sure", index), e, x) for index, (e, bound_side, x) in enumerate(book.sure) if bound_side == side]
    return told + sure


def paths_between(book, ways):
    """Return a list with a tuple (excess, path) for each floor and each ceiling to which a way leads from it.

    The path goes by the best way; ways are those of the book.
    """
    ends = _sources(book, "most")
    found = []
    for start, a, low in _sources(book, "least"):
        for end, b, high in ends:
            best = ways[a][b]
            if best is not None:
                found.append((low + best[0] - high, (start, best[1], end)))
    return found


def links_in(book, ways):
    """Return a list with one link of each floor and each ceiling that have one, by the ways of the book."""
    return [path for excess, path in paths_between(book, ways) if excess > 0]


def link(book, start, end):
    """Return a link of a floor and a ceiling, or None if there is none."""
    for some in links_in(book, sure_ways(book)):
        if some[0] == start and some[2] == end:
            return some
    return None


def bounds_link_in(links):
    """Return the first one of these links that is one of two bounds, or None."""
    for some in links:
        start, _, end = some
        if start[0] == "sure" and end[0] == "sure":
            return some
    return None


def bounds_link(book):
    """Return a link of two bounds, or None if there is none."""
    return bounds_link_in(links_in(book, sure_ways(book)))
