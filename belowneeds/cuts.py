"""Cuts [31]: the rows of a word, as far as they have values without the rows below."""

from belowneeds.checks import is_between
from belowneeds.errors import InvalidRow, InvalidWord, TooMany
from belowneeds.sheet_checks import check_column, check_foot
from belowneeds.sights import CutSights
from belowneeds.solving import Solution

MAX_ROWS = 400


class Cut:
    """The cut of a word, perhaps with a foot."""

    def __init__(self, sheet, word, *, foot=None):
        sheet.place_behind(word)
        if foot is not None:
            check_foot(foot, sheet)
        if len(word) > MAX_ROWS:
            raise TooMany("rows", MAX_ROWS)
        self._sheet = sheet
        self._word = tuple(word)
        self._foot = None if foot is None else {column: foot[column] for column in sheet.columns}
        self._solution = Solution(sheet, self._foot)
        self._rounds = self._solution.add_rows(self._word)
        self._sights = CutSights(self._solution, sheet.columns)

    @property
    def sheet(self):
        """The sheet."""
        return self._sheet

    @property
    def word(self):
        """The tuple of the kinds."""
        return self._word

    @property
    def foot(self):
        """The foot, a dict, or None."""
        return None if self._foot is None else dict(self._foot)

    @property
    def rounds(self):
        """The number of rounds that change something."""
        return self._rounds

    def value_at(self, row, column):
        """The value of the cell, or None."""
        self._check_cell(row, column)
        return self._sights.value_at(self._sights.position_of(row, column))

    def row_values(self, row):
        """The values of the row, or None: a dict in the sequence of the columns."""
        self._check_row(row)
        return self._solution.row_values(row)

    def empty_cells(self):
        """Yields the tuples (row, column) of all cells that have none, row by row."""
        for row in range(1, len(self._word) + 1):
            for column, value in self._solution.row_values(row).items():
                if value is None:
                    yield (row, column)

    def next_of(self, row, column):
        """The next [32] of the cell, a tuple (row, column), or None for a cell with a value."""
        self._check_cell(row, column)
        following = self._solution.next_of(self._sights.position_of(row, column))
        return None if following is None else self._sights.cell_at(following)

    def walk(self, row, column):
        """The walk [32], and the position to which it comes back, or None if it leads beyond the last row."""
        self._check_cell(row, column)
        return self._sights.walk(self._sights.position_of(row, column))

    def cells_met(self, row, column):
        """The sorted list of the cells met [33], without any for a cell that has no value."""
        if self.value_at(row, column) is None:
            return []
        return self._sights.all_met(self._sights.position_of(row, column))

    def depth_at(self, row, column):
        """The depth [33], or None for a cell that has no value."""
        if self.value_at(row, column) is None:
            return None
        return self._sights.lowest_row(self._sights.position_of(row, column)) - row

    def __len__(self):
        return len(self._word)

    def _check_row(self, row):
        if not is_between(row, 1, len(self._word)):
            raise InvalidRow(row)

    def _check_cell(self, row, column):
        self._check_row(row)
        check_column(column, self._sheet)


def rows_in(sheet, names):
    """The lists of the values, or None, of the rows of a list of strings; the errors are those of Cut."""
    position = sheet.refused_at(names)
    if position is not None:
        raise InvalidWord(position)
    if len(names) > MAX_ROWS:
        raise TooMany("rows", MAX_ROWS)
    solution = Solution(sheet, None)
    solution.add_rows(names)
    return [list(solution.row_values(row).values()) for row in range(1, len(names) + 1)]
