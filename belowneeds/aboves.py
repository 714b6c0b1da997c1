"""Aboves [41]: what can stand above a row."""

from belowneeds.errors import TooMany

MAX_ENTRIES = 100


def has_few_entries(sheet):
    """Whether a sheet has not too many aboves."""
    many = 1
    for _ in sheet.reads("up"):
        many = many * (sheet.modulus + 1)
    return many <= MAX_ENTRIES


def check_entries(sheet):
    """Refuses a sheet with too many aboves."""
    if not has_few_entries(sheet):
        raise TooMany("entries", MAX_ENTRIES)


def all_aboves(sheet):
    """The sorted list of the aboves of a sheet that has not too many."""
    values = [None, *list(range(sheet.modulus))]
    found = [()]
    for _ in sheet.reads("up"):
        found = [(*above, value) for above in found for value in values]
    return found


def is_less_told(one, other):
    """Whether one of these tuples has at each place the same as the other one, or None."""
    return all([part is None or part == more for part, more in zip(one, other)])
