"""What the items of the four parts of a book are."""

from earlyorlate.words import is_integer, is_kind, is_number, is_tuple

# In the order in which a Book takes them.
PARTS = ("tellings", "gaps", "sure", "clauses")

FORMS = {
    "tellings": ("witness", "event", "number"),
    "gaps": ("event", "another event", "number"),
    "sure": ("event", "side", "number"),
    "clauses": ("witness", "kind", "witness", "kind"),
}


def is_below(thing, many):
    """Return whether thing, any value, is an integer from 0 to many - 1."""
    return is_integer(thing) and 0 <= thing < many


def are_ascending(things, many):
    """Return whether these, any values in a list or a tuple, are some of the integers below many, each greater."""
    if not all([is_below(thing, many) for thing in things]):
        return False
    return all([one < other for one, other in zip(things, things[1:])])


def is_side(thing):
    """Return whether thing, any value, is "least" or "most"."""
    return isinstance(thing, str) and thing in ("least", "most")


def turned_side(side):
    """Return the other side."""
    if side == "least":
        return "most"
    return "least"


def first_wrong(part, values, events, witnesses):
    """Return the place of the first value that cannot stand there in an item of the part, or None.

    There are as many values as such an item has.
    """
    for place, word in enumerate(FORMS[part]):
        if not _can_stand(word, values, place, events, witnesses):
            return place
    return None


def _can_stand(word, values, place, events, witnesses):
    thing = values[place]
    if word == "witness":
        return is_below(thing, witnesses)
    if word == "event":
        return is_below(thing, events)
    if word == "another event":
        return is_below(thing, events) and thing != values[place - 1]
    if word == "side":
        return is_side(thing)
    if word == "kind":
        return is_kind(thing)
    return is_number(thing)


def is_item(part, thing, events, witnesses):
    """Return whether thing, any value, is an item of the part in a book of these sizes."""
    return is_tuple(thing, len(FORMS[part])) and first_wrong(part, thing, events, witnesses) is None


def is_plain_clause(clause):
    """Return whether the two literals of a clause have one witness or unlike kinds."""
    w, kind, v, other = clause
    return w == v or kind != other
