"""How the sheet of a fill goes on without end [51] [52]."""

from belowneeds.rows_under import RowsUnder
from belowneeds.solving import formulas_of


class Course:
    """The rows and true tables of the sheet of an allowed fill, up to where they come again."""

    def __init__(self, sheet, fill):
        self._sheet = sheet
        self._formulas = formulas_of(sheet)
        self._lead = len(fill.lead)
        self._word = [*fill.lead, *fill.turn]
        self._source = RowsUnder(sheet)
        self._tables = self._all_tables(list(fill.turn))
        self._rows = [sheet.top()]
        # The row from which on all rows come again, and behind how many rows.
        self.begin_row = 1
        self.period_rows = 1
        self._add_rows()

    def table(self, row):
        """The true table of this row."""
        return self._tables[self._position(row)]

    def row_values(self, row):
        """A dict from the columns, in sequence, to values or None; the top for row 0."""
        return dict(self._rows[self._same(row)])

    def first_empty_row(self, column):
        """The least row in which the cell of the column has none, or None."""
        for row in range(1, len(self._rows)):
            if self._rows[row][column] is None:
                return row
        return None

    def has_row(self, row):
        """Whether there is a row of cells with this number."""
        return row >= 1

    def cell_looked(self, row, column):
        """The value of the formula of this cell or None, and the references that are worked out."""
        formula = self._formulas[self._word[self._position(row)]][column]
        around = [self._rows[self._same(other)] for other in (row - 1, row, row + 1)]
        return formula.looked(self._sheet.modulus, around[0], around[1], around[2])

    def _position(self, row):
        """The position of the kind of the row in the lead and the turn."""
        if row <= self._lead:
            return row - 1
        return self._lead + (row - 1 - self._lead) % (len(self._word) - self._lead)

    def _same(self, row):
        """The first row that has the values of this one."""
        if row < self.begin_row + self.period_rows:
            return row
        return self.begin_row + (row - self.begin_row) % self.period_rows

    def _all_tables(self, turn):
        """The true tables, one for each kind of the lead and the turn."""
        table = self._behind_turns(turn)
        tables = []
        for kind in self._word[::-1]:
            table = self._source.table_above(kind, table)
            tables.append(table)
        return tables[::-1]

    def _behind_turns(self, turn):
        """The true table of a row in which a turn begins."""
        table = self._source.blank()
        before = None
        while table != before:
            before = table
            for kind in turn[::-1]:
                table = self._source.table_above(kind, table)
        return table

    def _add_rows(self):
        """Adds rows up to the first one from which on all come again."""
        top = self._sheet.top()
        over = tuple([top[column] for column in self._sheet.reads("up")])
        met = {}
        row = 1
        while (self._position(row), over) not in met:
            met[(self._position(row), over)] = row
            under = self._source.under(over, self._word[self._position(row)], self.table(row + 1))
            self._rows.append(under.told)
            over = under.over
            row += 1
        self.begin_row = met[(self._position(row), over)]
        self.period_rows = row - self.begin_row
