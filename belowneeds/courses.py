"""How the sheet of a fill goes on without end [51] [52]."""

from belowneeds.rows_under import rows_of
from belowneeds.works import works_of


class Course:
    """The rows and true tables of the sheet of an allowed fill, up to where they come again."""

    def __init__(self, sheet, fill):
        self._sheet = sheet
        self._works = works_of(sheet)
        self._source = rows_of(sheet)
        self._lead = len(fill.lead)
        self._word = [*fill.lead, *fill.turn]
        self._tables = self._all_tables(list(fill.turn))
        # The cells of the top and of each row.
        self._rows = [self._works.top_cells]
        # The row from which on all rows come again, and behind how many rows.
        self.begin_row = 1
        self.period_rows = 1
        self._add_rows()

    def table(self, row):
        """The true table of this row."""
        return self._source.numbers.told_table(self._tables[self.position_of(row)])

    def kind_at(self, row):
        """The kind of this row."""
        return self._word[self.position_of(row)]

    def row_values(self, row):
        """A dict from the columns, in sequence, to values or None; the top for row 0."""
        return self._works.row_told(self._rows[self._same(row)])

    def first_empty_row(self, column):
        """The least row in which the cell of the column has none, or None."""
        number = self._works.numbers[column]
        for row in range(1, len(self._rows)):
            if self._rows[row][number] < 0:
                return row
        return None

    def next_of(self, cell):
        """The cell to which the need of the formula of a cell leads, a tuple (row, column); None for a value."""
        row, column = cell
        at = self._works.width + self._works.numbers[column]
        work = self._works.worths_of(self.kind_at(row))[self._works.numbers[column]]
        told = work(self._cells_around(row), at)
        return self._cell_at(row, self._works.needed(at, told)) if told < 0 else None

    def looked_at(self, cell):
        """The cells of rows to which the references lead that are worked out, of a cell with a value."""
        row, column = cell
        at = self._works.width + self._works.numbers[column]
        sight = self._works.sights_of(self.kind_at(row))[self._works.numbers[column]]
        found = [self._cell_at(row, at + way) for way in sight(self._cells_around(row), at)]
        return [other for other in found if other[0] >= 1]

    def position_of(self, row):
        """The position of the kind of the row in the lead and the turn."""
        if row <= self._lead:
            return row - 1
        return self._lead + (row - 1 - self._lead) % (len(self._word) - self._lead)

    def _cells_around(self, row):
        """The cells of this row, and of those above and below it."""
        return [value for other in (row - 1, row, row + 1) for value in self._rows[self._same(other)]]

    def _cell_at(self, row, at):
        """The tuple (row, column) of the cell at this position in the cells around a row."""
        many = self._works.width
        return (row - 1 + at // many, self._works.heads[at % many])

    def _same(self, row):
        """The first row that has the values of this one."""
        if row < self.begin_row + self.period_rows:
            return row
        return self.begin_row + (row - self.begin_row) % self.period_rows

    def _all_tables(self, turn):
        """The numbers of the true tables, one for each kind of the lead and the turn."""
        table = self._behind_turns(turn)
        tables = []
        for kind in self._word[::-1]:
            table = self._source.table_above(kind, table)
            tables.append(table)
        return tables[::-1]

    def _behind_turns(self, turn):
        """The true table of a row in which a turn begins."""
        table = self._source.blank()
        before = None
        while table != before:
            before = table
            for kind in turn[::-1]:
                table = self._source.table_above(kind, table)
        return table

    def _add_rows(self):
        """Adds rows up to the first one from which on all come again."""
        over = self._source.top_number
        met = {}
        row = 1
        while (self.position_of(row), over) not in met:
            met[(self.position_of(row), over)] = row
            found = self._source.under(over, self.kind_at(row), self._tables[self.position_of(row + 1)])
            self._rows.append(found.cells)
            over = found.over
            row += 1
        self.begin_row = met[(self.position_of(row), over)]
        self.period_rows = row - self.begin_row


class CourseSights:
    """How far down the cells of a course look, at once or by way of others."""

    def __init__(self, course):
        self._course = course
        self._lowest = {}

    def lowest(self, cell):
        """The greatest row among the cells that a cell with a value meets."""
        waiting = [cell]
        while waiting:
            here = waiting[-1]
            others = self._course.looked_at(here)
            missing = [other for other in others if other not in self._lowest]
            if missing:
                waiting.extend(missing)
            else:
                waiting.pop()
                self._lowest[here] = max([here[0], *[self._lowest[other] for other in others]])
        return self._lowest[cell]
