"""The errors of this package, one class for each kind of failure.

Each keeps the very objects that it was constructed from. They are not put into
a message: they may be any values, also such that cannot be shown.
"""


class CaseError(ValueError):
    """What all errors of this package are."""

    def __init__(self, *values):
        """Take any number of any values."""


class Wrong(CaseError):
    """The argument at this place is not as described."""

    def __init__(self, place):
        self.place = place


class BadItem(CaseError):
    """The item with this index, in the part at this place of the arguments, is none."""

    def __init__(self, place, index):
        self.place = place
        self.index = index


class TooMany(CaseError):
    """There are more than the limit, or there would be."""

    def __init__(self, limit):
        self.limit = limit


class NoFit(CaseError):
    """A book has no explanation, and this is a reason."""

    def __init__(self, reason):
        self.reason = reason


class NoHelp(CaseError):
    """No strike helps, and this is a reason that names nobody."""

    def __init__(self, reason):
        self.reason = reason


class NotPlain(CaseError):
    """The clause with this index is not plain."""

    def __init__(self, index):
        self.index = index


class NoKinds(CaseError):
    """These kinds do not fit."""

    def __init__(self, kinds):
        self.kinds = kinds


class NoIndex(CaseError):
    """This value is no index there."""

    def __init__(self, index):
        self.index = index


class Unequal(CaseError):
    """Two things have not the same sizes, which are these."""

    def __init__(self, one, other):
        self.one = one
        self.other = other


class NoText(CaseError):
    """The line with this number cannot stand in such a text."""

    def __init__(self, line):
        self.line = line


class NoCommand(CaseError):
    """This line is no command."""

    def __init__(self, line):
        self.line = line


class Nothing(CaseError):
    """There is nothing to take back, or to do again."""

    def __init__(self):
        """Take no values, unlike the class above."""
