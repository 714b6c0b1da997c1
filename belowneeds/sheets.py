"""Sheets [21], with their plans and words [22]."""

from belowneeds.checks import is_list
from belowneeds.errors import InvalidWord, UnknownColumn, UnknownKind, UnknownPlace
from belowneeds.sheet_checks import check_columns, check_kinds, check_modulus, check_plan, check_top, is_place


class Sheet:
    """A modulus, columns, a top, kinds of rows with their formulas, and a plan."""

    MAX_COLUMNS = 6
    MAX_KINDS = 4

    def __init__(self, modulus, columns, top, kinds, plan=None):
        check_modulus(modulus)
        check_columns(columns, Sheet.MAX_COLUMNS)
        check_top(top, columns, modulus)
        check_kinds(kinds, columns, modulus, Sheet.MAX_KINDS)
        places = [{kind: 0 for kind in kinds}] if plan is None else plan
        check_plan(places, kinds)
        self._modulus = modulus
        self._columns = tuple(columns)
        self._top = {column: top[column] for column in columns}
        self._kinds = {kind: {column: kinds[kind][column] for column in columns} for kind in sorted(kinds)}
        self._plan = [{kind: leads[kind] for kind in sorted(leads)} for leads in places]

    @classmethod
    def free(cls, modulus, columns, top, **kinds):
        """The sheet with these kinds and the free plan."""
        return cls(modulus, columns, top, kinds)

    @property
    def modulus(self):
        """The modulus."""
        return self._modulus

    @property
    def columns(self):
        """The tuple of the columns."""
        return self._columns

    @property
    def places(self):
        """The number of places of the plan."""
        return len(self._plan)

    def kinds(self):
        """The sorted list of the kinds."""
        return list(self._kinds)

    def top(self):
        """The top: a dict from the columns to values."""
        return dict(self._top)

    def formula(self, kind, column):
        """The formula of this kind and column."""
        if not isinstance(kind, str) or kind not in self._kinds:
            raise UnknownKind(kind)
        if column not in self._columns:
            raise UnknownColumn(column)
        return self._kinds[kind][column]

    def plan(self):
        """The list of the places: dicts from the kinds that are allowed to places."""
        return [dict(leads) for leads in self._plan]

    def reads(self, where):
        """The tuple of the columns, in sequence, that the sheet reads so [24]."""
        formulas = [formula for row in self._kinds.values() for formula in row.values()]
        found = [column for formula in formulas for column in formula.columns_read(where)]
        return tuple([column for column in self._columns if column in found])

    def allowed(self, place):
        """The sorted list of the kinds that are allowed at this place."""
        self._check_place(place)
        return list(self._plan[place])

    def place_behind(self, word, *, place=0):
        """The place to which a word leads from a place."""
        self._check_place(place)
        if not is_list(word):
            raise InvalidWord(None)
        passed = self._places_passed(word, place)
        if len(passed) <= len(word):
            raise InvalidWord(len(passed) - 1)
        return passed[-1]

    def is_word(self, value):
        """Whether this is a word that is allowed."""
        return is_list(value) and len(self._places_passed(value, 0)) > len(value)

    def __eq__(self, other):
        return isinstance(other, Sheet) and self._all_parts() == other._all_parts()

    def _all_parts(self):
        return (self._modulus, self._columns, self._top, self._kinds, self._plan)

    def _check_place(self, place):
        if not is_place(place, len(self._plan)):
            raise UnknownPlace(place)

    def _places_passed(self, word, place):
        """The places from this one on, one more than there are kinds up to the first one that is not allowed."""
        passed = [place]
        for kind in word:
            leads = self._plan[passed[-1]]
            if not isinstance(kind, str) or kind not in leads:
                return passed
            passed.append(leads[kind])
        return passed
