"""Endless sheets [51]: the sheets of fills."""

from belowneeds.aboves import check_entries
from belowneeds.checks import is_between
from belowneeds.courses import Course, CourseSights
from belowneeds.errors import InvalidCount, InvalidRow, NotAllowed
from belowneeds.fills import LAST_ROW, first_refused
from belowneeds.sheet_checks import check_column

LAST_LOOKED_AT = 400
MOST_ROWS = 2000


class Endless:
    """The sheet of an allowed fill."""

    def __init__(self, sheet, fill):
        _check_fill(sheet, fill)
        self._sheet = sheet
        self._fill = fill
        self._course = Course(sheet, fill)
        self._sights = CourseSights(self._course)

    @property
    def sheet(self):
        """The sheet."""
        return self._sheet

    @property
    def fill(self):
        """The fill."""
        return self._fill

    @property
    def begin(self):
        """The row from which on all values and nones come again."""
        return self._course.begin_row

    @property
    def period(self):
        """The number of rows behind which they come again."""
        return self._course.period_rows

    def value_at(self, row, column):
        """The value of the cell, or None."""
        _check_row(row, LAST_ROW)
        check_column(column, self._sheet)
        return self._course.row_values(row)[column]

    def row_values(self, row):
        """The values of the row, or None: a dict in the sequence of the columns."""
        _check_row(row, LAST_ROW)
        return self._course.row_values(row)

    def true_table(self, row):
        """The true table [52] of the row."""
        _check_row(row, LAST_ROW)
        return self._course.table(row)

    def first_empty(self, column):
        """The least row in which the cell of the column has none, or None."""
        check_column(column, self._sheet)
        return self._course.first_empty_row(column)

    def rows(self, many):
        """Yields the dicts of the first so many rows."""
        if not is_between(many, 0, MOST_ROWS):
            raise InvalidCount(many)
        for row in range(1, many + 1):
            yield self._course.row_values(row)

    def depth_at(self, row, column):
        """The depth of the cell, or None if it has none."""
        self._check_cell(row, column)
        if self._course.row_values(row)[column] is None:
            return None
        return self._sights.lowest((row, column)) - row

    def next_of(self, row, column):
        """The next of the cell, a tuple (row, column), or None for a cell with a value."""
        self._check_cell(row, column)
        return self._course.next_of((row, column))

    def walk(self, row, column):
        """A tuple (cells, back, shift) that tells the walk [53]; ([], None, 0) for a cell with a value."""
        self._check_cell(row, column)
        if self._course.row_values(row)[column] is not None:
            return ([], None, 0)
        cells = []
        positions = {}
        # The last position of what comes again, among the cells behind the last one ahead of the begin.
        alike = {}
        cell = (row, column)
        while cell not in positions:
            key = (cell[1], cell[0] % self.period)
            # If the walk led up to it, it goes on so: no position ahead of the last one is in a row above.
            if key in alike and cells[alike[key]][0] < cell[0]:
                return (cells, alike[key], cell[0] - cells[alike[key]][0])
            if cell[0] < self.begin:
                alike = {}
            else:
                alike[key] = len(cells)
            positions[cell] = len(cells)
            cells.append(cell)
            cell = self._course.next_of(cell)
        return (cells, positions[cell], 0)

    def __eq__(self, other):
        return isinstance(other, Endless) and self._sheet == other._sheet and self._fill == other._fill

    def _check_cell(self, row, column):
        _check_row(row, LAST_LOOKED_AT)
        check_column(column, self._sheet)


def value_in(sheet, fill, row, column):
    """The value of this cell in the sheet of the fill, or None; the errors are those of Endless and value_at."""
    # What is refused is refused before the rows are worked out.
    _check_fill(sheet, fill)
    _check_row(row, LAST_ROW)
    check_column(column, sheet)
    return Course(sheet, fill).row_values(row)[column]


def _check_fill(sheet, fill):
    refused = first_refused(sheet, fill)
    if refused is not None:
        raise NotAllowed(refused)
    check_entries(sheet)


def _check_row(row, last):
    if not is_between(row, 1, last):
        raise InvalidRow(row)
