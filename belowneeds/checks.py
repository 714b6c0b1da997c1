"""What integers, names and lists are [2], and the limits of formulas [14]."""

MAX_NODES = 40
MAX_DEPTH = 8
GREATEST_NUMBER = 8
LONGEST_NAME = 8
# These are asked for too often to look through a tuple.
RESERVED = {
    "if": True, "then": True, "else": True, "in": True, "here": True, "up": True, "down": True, "least": True,
    "most": True,
}
WHERES = ("here", "up", "down")
DIGITS = {"0": 0, "1": 1, "2": 2, "3": 3, "4": 4, "5": 5, "6": 6, "7": 7, "8": 8}


def is_integer(value):
    """Whether this is an integer: a bool is none."""
    return isinstance(value, int) and not isinstance(value, bool)


def is_between(value, low, high):
    """Whether this is an integer from low to high."""
    return isinstance(value, int) and not isinstance(value, bool) and low <= value <= high


def is_count(value):
    """Whether this is an integer that is at least 0."""
    return is_integer(value) and value >= 0


def is_list(value):
    """Whether this is accepted where a list is asked for."""
    return isinstance(value, (list, tuple))


def is_name(value):
    """Whether this is a name."""
    if not isinstance(value, str) or len(value) > LONGEST_NAME or value in RESERVED:
        return False
    return value.isalpha() and value.islower() and value.isascii()


def is_where(value):
    """Whether this is one of the words for where a reference leads."""
    return isinstance(value, str) and value in WHERES


def is_chosen(value):
    """Whether these can be the listed numbers of a choice: ascending and different."""
    if not is_list(value):
        return False
    least = 0
    for number in value:
        if not is_between(number, least, GREATEST_NUMBER):
            return False
        least = number + 1
    return True
