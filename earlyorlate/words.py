"""Integers, numbers, kinds and literals, and what tuples look like."""

GREATEST_NUMBER = 10 ** 15


def is_integer(thing):
    """Return whether thing, any value, is an integer."""
    return isinstance(thing, int) and not isinstance(thing, bool)


def is_number(thing):
    """Return whether thing, any value, is an integer that a book may contain as a time or a gap."""
    return is_integer(thing) and -GREATEST_NUMBER <= thing <= GREATEST_NUMBER


def is_kind(thing):
    """Return whether thing, any value, is "early" or "late"."""
    return isinstance(thing, str) and thing in ("early", "late")


def contrary(kind):
    """Return the other kind."""
    if kind == "early":
        return "late"
    return "early"


def are_kinds(thing, many):
    """Return whether thing, any value, is a tuple of so many kinds."""
    return is_tuple(thing, many) and all([is_kind(some) for some in thing])


def turned_literal(literal):
    """Return the literal that says the contrary of the same witness."""
    w, kind = literal
    return (w, contrary(kind))


def is_tuple(thing, many):
    """Return whether thing, any value, is a tuple of so many values."""
    return isinstance(thing, tuple) and len(thing) == many


def is_headed(thing, word):
    """Return whether thing, any value, is a tuple of this word and one value more."""
    return is_tuple(thing, 2) and isinstance(thing[0], str) and thing[0] == word
