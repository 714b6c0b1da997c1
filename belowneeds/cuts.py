"""Cuts [31]: the rows of a word, as far as they have values without the rows below."""

from belowneeds.checks import is_between
from belowneeds.errors import InvalidFoot, InvalidRow, TooMany, UnknownColumn
from belowneeds.sheet_checks import first_without_value, has_columns
from belowneeds.solving import Solution

MAX_ROWS = 400


class Cut:
    """The cut of a word, perhaps with a foot."""

    def __init__(self, sheet, word, *, foot=None):
        sheet.place_behind(word)
        _check_foot(sheet, foot)
        if len(word) > MAX_ROWS:
            raise TooMany("rows", MAX_ROWS)
        self._sheet = sheet
        self._word = tuple(word)
        self._foot = None if foot is None else {column: foot[column] for column in sheet.columns}
        self._solution = Solution(sheet, {} if foot is None else self._foot)
        self._rounds = self._solution.add_rows(self._word)

    @property
    def sheet(self):
        """The sheet."""
        return self._sheet

    @property
    def word(self):
        """The tuple of the kinds."""
        return self._word

    @property
    def foot(self):
        """The foot, a dict, or None."""
        return None if self._foot is None else dict(self._foot)

    @property
    def rounds(self):
        """The number of rounds that change something."""
        return self._rounds

    def value_at(self, row, column):
        """The value of the cell, or None."""
        self._check_row(row)
        if column not in self._sheet.columns:
            raise UnknownColumn(column)
        return self._solution.row_values(row)[column]

    def row_values(self, row):
        """The values of the row, or None: a dict in the sequence of the columns."""
        self._check_row(row)
        return self._solution.row_values(row)

    def empty_cells(self):
        """Yields the tuples (row, column) of all cells that have none, row by row."""
        for row in range(1, len(self._word) + 1):
            for column, value in self._solution.row_values(row).items():
                if value is None:
                    yield (row, column)

    def __len__(self):
        return len(self._word)

    def _check_row(self, row):
        if not is_between(row, 1, len(self._word)):
            raise InvalidRow(row)


def _check_foot(sheet, foot):
    if foot is None:
        return
    if not has_columns(foot, sheet.columns):
        raise InvalidFoot(None)
    wrong = first_without_value(foot, sheet.columns, sheet.modulus)
    if wrong is not None:
        raise InvalidFoot(wrong)
