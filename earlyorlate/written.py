"""What texts and desks accept: integers and items as they are written, fewer items and lesser numbers than a Book."""

from earlyorlate.items import first_wrong, is_item
from earlyorlate.notation import line_of
from earlyorlate.words import is_kind

MOST_TOLD = 20
GREATEST_TOLD = 10 ** 12
MOST_DIGITS = 40

PART_BY_WORD = {
    "tell": "tellings",
    "gap": "gaps",
    "least": "sure",
    "most": "sure",
    "known": "clauses",
    "clause": "clauses",
}


def integer_of(word):
    """Return the integer that is written so, with at most forty digits, or None."""
    digits = word.removeprefix("-")
    if not digits or len(digits) > MOST_DIGITS or not all([digit in "0123456789" for digit in digits]):
        return None
    number = int(word)
    # A leading zero, or a minus ahead of 0, is not written.
    if str(number) != word:
        return None
    return number


def first_refused(part, item, events, witnesses):
    """Return the place of the first value that is not accepted in an item of the part, or None.

    The item is a tuple of as many values as an item of the part has.
    """
    wrong = first_wrong(part, item, events, witnesses)
    if wrong is None and part != "clauses" and abs(item[2]) > GREATEST_TOLD:
        return 2
    return wrong


def item_of(line, events, witnesses):
    """Return a tuple of the part and the item that a line tells in a book of these sizes, or None."""
    word, *rest = line.split(" ")
    if word not in PART_BY_WORD:
        return None
    part = PART_BY_WORD[word]
    item = _item_told(word, tuple([_value_of(some) for some in rest]))
    if not is_item(part, item, events, witnesses) or first_refused(part, item, events, witnesses) is not None:
        return None
    # A clause that says one thing twice is written in another way.
    if line_of(part, item) != line:
        return None
    return (part, item)


def _item_told(word, values):
    """Return the item that a line with this word and these values tells, if these are as many as they have to be."""
    if word == "known":
        return values + values
    if word in ("least", "most"):
        return values[:1] + (word,) + values[1:]
    return values


def _value_of(word):
    if is_kind(word):
        return word
    return integer_of(word)
