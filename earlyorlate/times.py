"""The times that go with kinds that fit."""

from earlyorlate.ends import highs_with, lows_with
from earlyorlate.errors import NoKinds
from earlyorlate.fits import fits, some_times
from earlyorlate.ways import all_ways


def _check_kinds(book, kinds):
    if not fits(book, kinds):
        raise NoKinds(kinds)


def least_times(book, kinds):
    """Return the tuple of the least times of the events with these kinds, None standing where there is none."""
    _check_kinds(book, kinds)
    return tuple(lows_with(book, all_ways(book), kinds))


def greatest_times(book, kinds):
    """Return the tuple of the greatest times of the events with these kinds, None standing where there is none."""
    _check_kinds(book, kinds)
    return tuple(highs_with(book, all_ways(book), kinds))


def times_for(book, kinds):
    """Return a tuple of times with which these kinds are an explanation."""
    _check_kinds(book, kinds)
    return some_times(book, kinds)
