"""The least solution of the formulas of rows [31], which grows with the rows."""

STEPS = {"up": -1, "here": 0, "down": 1}


class Solution:
    """The values of the cells of some rows, and what the other cells wait for."""

    def __init__(self, sheet, foot):
        """No row yet; the foot is a dict from columns to values, without any if there is no foot."""
        self._sheet = sheet
        self._foot = foot
        self._word = []
        self._rows = [sheet.top()]
        self._waiting = {}

    def copied(self):
        """An independent one."""
        other = Solution(self._sheet, self._foot)
        other._word = list(self._word)
        other._rows = [dict(row) for row in self._rows]
        other._waiting = {cell: list(self._waiting[cell]) for cell in self._waiting}
        return other

    def add_rows(self, kinds):
        """Adds a row for each kind; returns the number of rounds that change something then."""
        cells = []
        for kind in kinds:
            self._word.append(kind)
            self._rows.append({column: None for column in self._sheet.columns})
            cells.extend([(len(self._word), column) for column in self._sheet.columns])
        rounds = 0
        while cells:
            found = self._worked_out(cells)
            rounds += 1 if found else 0
            cells = self._kept(found)
        return rounds

    def row_values(self, row):
        """A dict from the columns, in sequence, to values or None."""
        return dict(self._rows[row])

    def is_complete(self, row):
        """Whether the row is there, and all of its cells have values."""
        return row <= len(self._word) and all([value is not None for value in self._rows[row].values()])

    def _worked_out(self, cells):
        """The tuples (row, column, value) of the cells that get a value; the others wait for their needs."""
        found = []
        for row, column in cells:
            formula = self._sheet.formula(self._word[row - 1], column)
            around = (self._sheet.modulus, self._rows[row - 1], self._rows[row], self._below(row))
            value = formula.work_out(*around)
            if value is None:
                where, needed = formula.need(*around)
                self._waiting.setdefault((row + STEPS[where], needed), []).append((row, column))
            else:
                found.append((row, column, value))
        return found

    def _kept(self, found):
        """Keeps values, all at once at the end of a round; returns the cells that waited for them."""
        woken = []
        for row, column, value in found:
            self._rows[row][column] = value
            woken.extend(self._waiting.pop((row, column), []))
        return woken

    def _below(self, row):
        return self._rows[row + 1] if row < len(self._word) else self._foot
