"""Ways from event to event along gaps."""

from earlyorlate.errors import NoFit
from earlyorlate.items import is_below


def is_way(book, a, b, thing):
    """Return whether thing, any value, is a way from event a to event b."""
    if not isinstance(thing, tuple):
        return False
    here = a
    for index in thing:
        if not is_below(index, len(book.gaps)) or book.gaps[index][0] != here:
            return False
        here = book.gaps[index][1]
    return here == b


def sum_of(book, indexes):
    """Return the sum of a way."""
    return sum([book.gaps[index][2] for index in indexes])


def all_ways(book):
    """Return a list with the list of the best ways from each event; it tells of a ring, too."""
    return [_best_ways(book, start) for start in range(book.events)]


def _best_ways(book, start):
    """Return a list with a tuple (total, way) for each event, or None where no way from start leads.

    The total is the greatest sum of the ways of at most as many gaps as there are events.
    """
    best = [None] * book.events
    best[start] = (0, ())
    for _ in range(book.events):
        best = _with_one_gap_more(book.gaps, best)
    return best


def _with_one_gap_more(gaps, best):
    # Only ways of the last round are made longer, so none has more gaps than there were rounds.
    longer = list(best)
    for index, (a, b, g) in enumerate(gaps):
        if best[a] is not None:
            total, indexes = best[a]
            if longer[b] is None or longer[b][0] < total + g:
                longer[b] = (total + g, indexes + (index,))
    return longer


def ring_in(ways):
    """Return what ring returns, by what all_ways returned."""
    # If there is a ring, there is one that goes through no event twice, and so has few enough gaps.
    for event, best in enumerate(ways):
        total, indexes = best[event]
        if total > 0:
            return indexes
    return None


def ring(book):
    """Return a way from an event to itself whose sum is above 0, or None."""
    return ring_in(all_ways(book))


def sure_ways(book):
    """Return what all_ways returns, or raise NoFit if there is a ring."""
    ways = all_ways(book)
    around = ring_in(ways)
    if around is not None:
        raise NoFit(("gaps", around))
    return ways


def way(book, a, b):
    """Return a tuple (total, way) with the greatest sum of the ways from a to b, or None."""
    # Going round adds nothing where sure_ways returns, so ways through no event twice are best.
    return sure_ways(book)[a][b]
