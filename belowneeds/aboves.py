"""Aboves [41]: what can stand above a row."""

from belowneeds.checks import is_between
from belowneeds.errors import TooMany

MAX_ENTRIES = 100


def has_few_entries(sheet):
    """Whether a sheet has not too many aboves."""
    many = 1
    for _ in sheet.reads("up"):
        many = many * (sheet.modulus + 1)
    return many <= MAX_ENTRIES


def check_entries(sheet):
    """Refuses a sheet with too many aboves."""
    if not has_few_entries(sheet):
        raise TooMany("entries", MAX_ENTRIES)


def all_aboves(sheet):
    """The sorted list of the aboves of a sheet that has not too many."""
    values = [None, *list(range(sheet.modulus))]
    found = [()]
    for _ in sheet.reads("up"):
        found = [(*above, value) for above in found for value in values]
    return found


def are_values(value, columns, modulus):
    """Whether this is a tuple of values or None, one for each of the columns."""
    if not isinstance(value, tuple) or len(value) != len(columns):
        return False
    return all([part is None or is_between(part, 0, modulus - 1) for part in value])


def is_less_told(one, other):
    """Whether one of these tuples has at each place the same as the other one, or None."""
    return all([part is None or part == more for part, more in zip(one, other)])
