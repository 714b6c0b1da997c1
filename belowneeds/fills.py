"""Fills [23]: endless sequences of kinds."""

from belowneeds.checks import is_between, is_list, is_name
from belowneeds.errors import InvalidCount, InvalidFill, InvalidRow, InvalidWord

LAST_ROW = 10 ** 60
MOST_FIRST = 2000


class Fill:
    """An endless sequence of names: those of the lead, and then those of the turn, again and again."""

    def __init__(self, lead, turn):
        _check_part("lead", lead, 0)
        _check_part("turn", turn, 1)
        shortest = _shortest_turn(tuple(turn))
        same = _many_in_turn(tuple(lead), shortest)
        self._lead = tuple(lead[:len(lead) - same])
        self._turn = _moved_on(shortest, -same)

    @classmethod
    def of(cls, *kinds):
        """The fill without a lead, and with this turn."""
        return cls((), kinds)

    @property
    def lead(self):
        """The lead of the normal form, a tuple."""
        return self._lead

    @property
    def turn(self):
        """The turn of the normal form, a tuple."""
        return self._turn

    def kind_at(self, row):
        """The kind of this row."""
        if not is_between(row, 1, LAST_ROW):
            raise InvalidRow(row)
        if row <= len(self._lead):
            return self._lead[row - 1]
        return self._turn[(row - 1 - len(self._lead)) % len(self._turn)]

    def first(self, many):
        """The list of the first so many kinds."""
        if not is_between(many, 0, MOST_FIRST):
            raise InvalidCount(many)
        return [self.kind_at(row) for row in range(1, many + 1)]

    def behind(self, many):
        """The fill without its first so many names."""
        if not is_between(many, 0, LAST_ROW):
            raise InvalidCount(many)
        if many <= len(self._lead):
            return Fill(self._lead[many:], self._turn)
        return Fill((), _moved_on(self._turn, many - len(self._lead)))

    def __eq__(self, other):
        return isinstance(other, Fill) and self._lead == other._lead and self._turn == other._turn

    def __str__(self):
        return " ".join([*self._lead, f"({' '.join(self._turn)})"])

    def __repr__(self):
        return f"Fill({self._lead!r}, {self._turn!r})"


def first_refused(sheet, fill):
    """The least row whose kind is not allowed at the place reached, or None."""
    # Behind as many turns as there are places, a turn begins at a place at which one began before.
    word = [*fill.lead, *(fill.turn * sheet.places)]
    try:
        sheet.place_behind(word)
    except InvalidWord as error:
        return error.position + 1
    return None


def _check_part(part, names, least):
    """Refuses what is no list of names, at least so many."""
    if not is_list(names) or len(names) < least:
        raise InvalidFill(part, None)
    for position, name in enumerate(names):
        if not is_name(name):
            raise InvalidFill(part, position)


def _shortest_turn(turn):
    """The shortest part of the turn that gives it when it is repeated."""
    for many in range(1, len(turn)):
        if len(turn) % many == 0 and turn[:many] * (len(turn) // many) == turn:
            return turn[:many]
    return turn


def _many_in_turn(lead, turn):
    """How many names at the end of the lead can be left to the turn."""
    many = 0
    while many < len(lead) and lead[-1 - many] == turn[-1 - many % len(turn)]:
        many += 1
    return many


def _moved_on(turn, many):
    """The turn, begun so many names later."""
    begin = many % len(turn)
    return turn[begin:] + turn[:begin]
