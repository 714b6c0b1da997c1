"""Fills [23]: endless sequences of kinds."""

from belowneeds.checks import is_between, is_list, is_name
from belowneeds.errors import InvalidCount, InvalidFill, InvalidRow
from belowneeds.turning import moved_on, normal_form, told_at

LAST_ROW = 10 ** 60
MOST_FIRST = 2000


class Fill:
    """An endless sequence of names: those of the lead, and then those of the turn, again and again."""

    def __init__(self, lead, turn):
        _check_part("lead", lead, 0)
        _check_part("turn", turn, 1)
        self._lead, self._turn = normal_form(tuple(lead), tuple(turn))

    @classmethod
    def of(cls, *kinds):
        """The fill without a lead, and with this turn."""
        return cls((), kinds)

    @property
    def lead(self):
        """The lead of the normal form, a tuple."""
        return self._lead

    @property
    def turn(self):
        """The turn of the normal form, a tuple."""
        return self._turn

    def kind_at(self, row):
        """The kind of this row."""
        if not is_between(row, 1, LAST_ROW):
            raise InvalidRow(row)
        return told_at(self._lead, self._turn, row - 1)

    def first(self, many):
        """The list of the first so many kinds."""
        if not is_between(many, 0, MOST_FIRST):
            raise InvalidCount(many)
        return [self.kind_at(row) for row in range(1, many + 1)]

    def behind(self, many):
        """The fill without its first so many names."""
        if not is_between(many, 0, LAST_ROW):
            raise InvalidCount(many)
        if many <= len(self._lead):
            return Fill(self._lead[many:], self._turn)
        return Fill((), moved_on(self._turn, many - len(self._lead)))

    def __eq__(self, other):
        return isinstance(other, Fill) and self._lead == other._lead and self._turn == other._turn

    def __str__(self):
        return " ".join([*self._lead, f"({' '.join(self._turn)})"])

    def __repr__(self):
        return f"Fill({self._lead!r}, {self._turn!r})"


def first_refused(sheet, fill):
    """The least row whose kind is not allowed at the place reached, or None."""
    # Behind as many turns as there are places, a turn begins at a place at which one began before.
    position = sheet.refused_at([*fill.lead, *(fill.turn * sheet.places)])
    return None if position is None else position + 1


def _check_part(part, names, least):
    """Refuses what is no list of names, at least so many."""
    if not is_list(names) or len(names) < least:
        raise InvalidFill(part, None)
    for position, name in enumerate(names):
        if not is_name(name):
            raise InvalidFill(part, position)
