"""How books, kinds and times are written."""

from earlyorlate.items import PARTS


def line_of(part, item):
    """Return the line for an item of this part."""
    if part == "tellings":
        w, e, x = item
        return f"tell {w} {e} {x}"
    if part == "gaps":
        a, b, g = item
        return f"gap {a} {b} {g}"
    if part == "sure":
        e, side, x = item
        return f"{side} {e} {x}"
    w, kind, v, other = item
    if w == v and kind == other:
        return f"known {w} {kind}"
    return f"clause {w} {kind} {v} {other}"


def show_book(book):
    """Return the text of a book."""
    sizes = [f"events {book.events}", f"witnesses {book.witnesses}"]
    return "\n".join(sizes + [line_of(part, item) for part in PARTS for item in book.items_in(part)])


def show_kinds(kinds):
    """Return the kinds with a blank between any two, or "none"."""
    return _row_of(list(kinds))


def show_times(times):
    """Return the integers with a blank between any two, or "none"."""
    return _row_of([str(time) for time in times])


def _row_of(words):
    if not words:
        return "none"
    return " ".join(words)
