"""Sheets [21], with their plans and words [22]."""

from belowneeds.checks import is_list, is_where
from belowneeds.errors import InvalidWhere, InvalidWord
from belowneeds.sheet_checks import check_column, check_columns, check_kind, check_kinds, check_modulus
from belowneeds.sheet_checks import check_place, check_plan, check_top


class Sheet:
    """A modulus, columns, a top, kinds of rows with their formulas, and a plan."""

    MAX_COLUMNS = 6
    MAX_KINDS = 4

    def __init__(self, modulus, columns, top, kinds, plan=None):
        check_modulus(modulus)
        check_columns(columns, Sheet.MAX_COLUMNS)
        check_top(top, columns, modulus)
        check_kinds(kinds, columns, modulus, Sheet.MAX_KINDS)
        places = [{kind: 0 for kind in kinds}] if plan is None else plan
        check_plan(places, kinds)
        self._modulus = modulus
        self._columns = tuple(columns)
        self._top = {column: top[column] for column in columns}
        self._kinds = {kind: {column: kinds[kind][column] for column in columns} for kind in sorted(kinds)}
        self._plan = [{kind: leads[kind] for kind in sorted(leads)} for leads in places]
        # What was found out about the sheet, so that it is not found out again. It is no part of it.
        self.kept = {}

    @classmethod
    def free(cls, modulus, columns, top, **kinds):
        """The sheet with these kinds and the free plan."""
        return cls(modulus, columns, top, kinds)

    @property
    def modulus(self):
        """The modulus."""
        return self._modulus

    @property
    def columns(self):
        """The tuple of the columns."""
        return self._columns

    @property
    def places(self):
        """The number of places of the plan."""
        return len(self._plan)

    def kinds(self):
        """The sorted list of the kinds."""
        return list(self._kinds)

    def top(self):
        """The top: a dict from the columns to values."""
        return dict(self._top)

    def formula(self, kind, column):
        """The formula of this kind and column."""
        check_kind(kind, self)
        check_column(column, self)
        return self._kinds[kind][column]

    def formulas_of(self, kind):
        """The list of the formulas of this kind, in the sequence of the columns."""
        check_kind(kind, self)
        return list(self._kinds[kind].values())

    def plan(self):
        """The list of the places: dicts from the kinds that are allowed to places."""
        return [dict(leads) for leads in self._plan]

    def reads(self, where):
        """The tuple of the columns, in sequence, that the sheet reads so [24]."""
        if not is_where(where):
            raise InvalidWhere(where)
        if where not in self.kept:
            formulas = [formula for row in self._kinds.values() for formula in row.values()]
            found = [column for formula in formulas for column in formula.columns_read(where)]
            self.kept[where] = tuple([column for column in self._columns if column in found])
        return self.kept[where]

    def allowed(self, place):
        """The sorted list of the kinds that are allowed at this place."""
        check_place(place, self)
        return list(self._plan[place])

    def place_behind(self, word, *, place=0):
        """The place to which a word leads from a place."""
        check_place(place, self)
        if not is_list(word):
            raise InvalidWord(None)
        passed = self._places_passed(word, place)
        if len(passed) <= len(word):
            raise InvalidWord(len(passed) - 1)
        return passed[-1]

    def is_word(self, value):
        """Whether this is a word that is allowed."""
        return is_list(value) and len(self._places_passed(value, 0)) > len(value)

    def with_formula(self, kind, column, formula):
        """The sheet with another formula for this kind and column."""
        self.formula(kind, column)
        kinds = {other: dict(row) for other, row in self._kinds.items()}
        kinds[kind][column] = formula
        return Sheet(self._modulus, self._columns, self._top, kinds, self._plan)

    def with_top(self, **values):
        """The sheet with other values in the top, by the names of columns."""
        return self.topped(values)

    def topped(self, values):
        """The sheet with the values of this dict in the top; a column can also be called as Python's `self`."""
        for column in sorted(values):
            check_column(column, self)
        top = {column: values.get(column, self._top[column]) for column in self._columns}
        return Sheet(self._modulus, self._columns, top, self._kinds, self._plan)

    def __eq__(self, other):
        return isinstance(other, Sheet) and self._all_parts() == other._all_parts()

    def __str__(self):
        return "".join([f"{line}\n" for line in self._lines()])

    def __repr__(self):
        kinds = list(self._kinds)
        return f"Sheet({self._modulus}, {self._columns!r}, {kinds!r})"

    def _lines(self):
        """The lines of the text [25], without line feeds."""
        values = [str(value) for value in self._top.values()]
        lines = [f"modulus {self._modulus}", " ".join(["columns", *self._columns]), " ".join(["top", *values])]
        for kind, row in self._kinds.items():
            lines.append(f"kind {kind}")
            lines.extend([str(formula) for formula in row.values()])
        for leads in self._plan:
            told = [f"{kind} {leads[kind]}" for kind in leads]
            lines.append(" ".join(["plan", *told]))
        return lines

    def _all_parts(self):
        return (self._modulus, self._columns, self._top, self._kinds, self._plan)

    def _places_passed(self, word, place):
        """The places from this one on, one more than there are kinds up to the first one that is not allowed."""
        passed = [place]
        for kind in word:
            leads = self._plan[passed[-1]]
            if not isinstance(kind, str) or kind not in leads:
                return passed
            passed.append(leads[kind])
        return passed
