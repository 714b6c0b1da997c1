"""Sheets [21], with their plans and words [22]."""

from belowneeds.checks import is_list, is_where
from belowneeds.errors import InvalidKinds, InvalidTop, InvalidWhere, InvalidWord
from belowneeds.sheet_checks import Checked, check_column, check_kind, check_place, checked, first_without_value
from belowneeds.sheet_checks import is_formula_of


class Sheet:
    """A modulus, columns, a top, kinds of rows with their formulas, and a plan."""

    MAX_COLUMNS = 6
    MAX_KINDS = 4

    def __init__(self, modulus, columns, top, kinds, plan=None):
        # What is made of another sheet, or of a text, is passed as what needs no further look.
        given = kinds if isinstance(kinds, Checked) else checked(modulus, columns, top, kinds, plan)
        self._modulus, self._columns, self._top, self._kinds, self._plan = given.parts
        self._reads = {}
        # This is made when it is asked for.
        self._whole_text = None
        # What was found out about the sheet, so that it is not found out again. It is no part of it.
        self.kept = {}

    @classmethod
    def free(cls, modulus, columns, top, **kinds):
        """The sheet with these kinds and the free plan."""
        return cls(modulus, columns, top, kinds)

    @property
    def modulus(self):
        """The modulus."""
        return self._modulus

    @property
    def columns(self):
        """The tuple of the columns."""
        return self._columns

    @property
    def places(self):
        """The number of places of the plan."""
        return len(self._plan)

    @property
    def text(self):
        """The text [25]."""
        if self._whole_text is None:
            self._whole_text = "".join([f"{line}\n" for line in self._lines()])
        return self._whole_text

    def kinds(self):
        """The sorted list of the kinds."""
        return list(self._kinds)

    def has_kind(self, value):
        """Whether this is one of the kinds."""
        return isinstance(value, str) and value in self._kinds

    def top(self):
        """The top: a dict from the columns to values."""
        return dict(self._top)

    def formula(self, kind, column):
        """The formula of this kind and column."""
        check_kind(kind, self)
        check_column(column, self)
        return self._kinds[kind][column]

    def formulas_of(self, kind):
        """The list of the formulas of this kind, in the sequence of the columns."""
        check_kind(kind, self)
        return list(self._kinds[kind].values())

    def plan(self):
        """The list of the places: dicts from the kinds that are allowed to places."""
        return [dict(leads) for leads in self._plan]

    def reads(self, where):
        """The tuple of the columns, in sequence, that the sheet reads so [24]."""
        if not is_where(where):
            raise InvalidWhere(where)
        if where not in self._reads:
            formulas = [formula for row in self._kinds.values() for formula in row.values()]
            found = [column for formula in formulas for column in formula.columns_read(where)]
            self._reads[where] = tuple([column for column in self._columns if column in found])
        return self._reads[where]

    def allowed(self, place):
        """The sorted list of the kinds that are allowed at this place."""
        check_place(place, self)
        return list(self._plan[place])

    def place_behind(self, word, *, place=0):
        """The place to which a word leads from a place."""
        check_place(place, self)
        if not is_list(word):
            raise InvalidWord(None)
        many, behind = self._passed(word, place)
        if many < len(word):
            raise InvalidWord(many)
        return behind

    def is_word(self, value):
        """Whether this is a word that is allowed."""
        return is_list(value) and self._passed(value, 0)[0] == len(value)

    def refused_at(self, names):
        """The position of the first one of these strings that is not allowed at the place reached, or None."""
        places = self._plan
        leads = places[0]
        position = 0
        # A word can be long: each kind is looked up once.
        try:
            for position, name in enumerate(names):
                leads = places[leads[name]]
        except KeyError:
            return position
        return None

    def has_plan_of(self, other):
        """Whether another sheet has the same plan."""
        return self._plan == other._plan

    def with_formula(self, kind, column, formula):
        """The sheet with another formula for this kind and column."""
        check_kind(kind, self)
        check_column(column, self)
        if not is_formula_of(formula, self._columns, self._modulus):
            raise InvalidKinds(kind, column)
        row = dict(self._kinds[kind])
        row[column] = formula
        kinds = dict(self._kinds)
        kinds[kind] = row
        return self._made_of(self._top, kinds)

    def with_top(self, **values):
        """The sheet with other values in the top, by the names of columns."""
        return self.topped(values)

    def topped(self, values):
        """The sheet with the values of this dict in the top; a column can also be called as Python's `self`."""
        for column in sorted(values):
            check_column(column, self)
        # The others have values already.
        wrong = first_without_value(values, [column for column in self._columns if column in values], self._modulus)
        if wrong is not None:
            raise InvalidTop(wrong)
        found = self._made_of({**self._top, **values}, self._kinds)
        # The formulas are the same.
        found._reads = self._reads
        return found

    def __eq__(self, other):
        return isinstance(other, Sheet) and self._all_parts() == other._all_parts()

    def __str__(self):
        return str(self.text)

    def __repr__(self):
        kinds = list(self._kinds)
        return f"Sheet({self._modulus}, {self._columns!r}, {kinds!r})"

    def _made_of(self, top, kinds):
        """The sheet with this top and these kinds instead, which are as they must be."""
        parts = Checked(self._modulus, self._columns, top, kinds, self._plan)
        return Sheet(self._modulus, self._columns, top, parts)

    def _lines(self):
        """The lines of the text [25], without line feeds."""
        values = " ".join([str(value) for value in self._top.values()])
        heads = [f"modulus {self._modulus}", f"columns {' '.join(self._columns)}", f"top {values}"]
        kinds = [[f"kind {kind}", *[str(formula) for formula in row.values()]] for kind, row in self._kinds.items()]
        places = [" ".join(["plan", *[f"{kind} {leads[kind]}" for kind in leads]]) for leads in self._plan]
        return [*heads, *[line for told in kinds for line in told], *places]

    def _all_parts(self):
        return (self._modulus, self._columns, self._top, self._kinds, self._plan)

    def _passed(self, word, place):
        """How many kinds there are ahead of the first one that is not allowed, and the place to which they lead."""
        plan = self._plan
        leads = plan[place]
        for position, kind in enumerate(word):
            if not isinstance(kind, str) or kind not in leads:
                return position, place
            place = leads[kind]
            leads = plan[place]
        return len(word), place
