"""Rows under aboves, and the tables that they make up [42]."""

from belowneeds.aboves import all_aboves, check_entries
from belowneeds.solving import formulas_of


class Row:
    """A row under an above, with what the rows beside it see of it."""

    def __init__(self, told, ups, downs):
        """What is told is a dict from columns to values or None; ups and downs are the columns read so."""
        self.told = told
        # What stands above the next row.
        self.over = tuple([told[column] for column in ups])
        # What the row above looks down at.
        self.shown = tuple([told[column] for column in downs])
        self.empty = [column for column in told if told[column] is None]


class RowsUnder:
    """The rows of a sheet under its aboves. Each is worked out once for what stands around it."""

    def __init__(self, sheet):
        check_entries(sheet)
        self._sheet = sheet
        self._formulas = formulas_of(sheet)
        self._ups = sheet.reads("up")
        self._downs = sheet.reads("down")
        self._aboves = all_aboves(sheet)
        self._numbers = {above: number for number, above in enumerate(self._aboves)}
        self._found = {}
        self._tables = {}

    def blank(self):
        """The table of no rows."""
        return self.constant([None for _ in self._downs])

    def constant(self, values):
        """The table that has these values for each entry."""
        return tuple([tuple(values) for _ in self._aboves])

    def under(self, above, kind, table):
        """The row under an above, of a kind, with a rising table below."""
        # The row knows more at each step, so the table shows more below it, until both stay.
        below = table[0]
        while True:
            row = self._between(above, kind, below)
            shown = table[self._numbers[row.over]]
            if shown == below:
                return row
            below = shown

    def table_above(self, kind, table):
        """The table above a rising table, for a kind."""
        if (kind, table) not in self._tables:
            found = [self.under(above, kind, table) for above in self._aboves]
            self._tables[(kind, table)] = tuple([row.shown for row in found])
        return self._tables[(kind, table)]

    def _between(self, above, kind, below):
        """The row of this kind, with these values in the row above and in the row below."""
        if (kind, above, below) not in self._found:
            told = self._worked_out(kind, dict(zip(self._ups, above)), dict(zip(self._downs, below)))
            self._found[(kind, above, below)] = Row(told, self._ups, self._downs)
        return self._found[(kind, above, below)]

    def _worked_out(self, kind, above, below):
        row = {column: None for column in self._sheet.columns}
        changed = True
        while changed:
            changed = False
            for column, formula in self._formulas[kind].items():
                if row[column] is None:
                    row[column] = formula.work_out(self._sheet.modulus, above, row, below)
                    changed = changed or row[column] is not None
        return row
