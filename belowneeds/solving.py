"""The least solution of the formulas of rows [31], which grows with the rows."""

STEPS = {"up": -1, "here": 0, "down": 1}


class Solution:
    """The values of the cells of some rows, and what the other cells wait for."""

    def __init__(self, sheet, foot):
        """No row yet; the foot is a dict from columns to values, without any if there is no foot."""
        self._sheet = sheet
        self._foot = foot
        self._formulas = formulas_of(sheet)
        self._word = []
        self._rows = [sheet.top()]
        # For a cell without a value, the cells whose formulas need it.
        self._waiting = {}
        # What was done, so that it can be taken back.
        self._changes = []

    def copied(self):
        """An independent one, of which nothing can be taken back."""
        other = Solution(self._sheet, self._foot)
        other._word = list(self._word)
        other._rows = [dict(row) for row in self._rows]
        other._waiting = {cell: list(self._waiting[cell]) for cell in self._waiting}
        return other

    def add_rows(self, kinds):
        """Adds a row for each kind; returns the number of rounds that change something then."""
        cells = []
        for kind in kinds:
            self._word.append(kind)
            self._rows.append({column: None for column in self._sheet.columns})
            self._changes.append(("row", None, None))
            cells.extend([(len(self._word), column) for column in self._sheet.columns])
        rounds = 0
        while cells:
            found = self._worked_out(cells)
            rounds += 1 if found else 0
            cells = self._with_values(found)
        return rounds

    def many_changes(self):
        """How many changes were made, and not taken back."""
        return len(self._changes)

    def take_back(self, changes):
        """Takes back all changes but the first so many."""
        while len(self._changes) > changes:
            word, cell, others = self._changes.pop()
            if word == "row":
                self._word.pop()
                self._rows.pop()
            elif word == "value":
                row, column = cell
                self._rows[row][column] = None
            elif word == "waits":
                self._waiting[cell].pop()
            else:
                self._waiting[cell] = others

    def row_values(self, row):
        """A dict from the columns, in sequence, to values or None."""
        return dict(self._rows[row])

    def has_row(self, row):
        """Whether there is a row of cells with this number."""
        return 1 <= row <= len(self._word)

    def is_complete(self, row):
        """Whether the row is there, and all of its cells have values."""
        return self.has_row(row) and all([value is not None for value in self._rows[row].values()])

    def cell_looked(self, row, column):
        """The value of the formula of this cell or None, and the references that are worked out."""
        below = self._rows[row + 1] if row < len(self._word) else self._foot
        formula = self._formulas[self._word[row - 1]][column]
        return formula.looked(self._sheet.modulus, self._rows[row - 1], self._rows[row], below)

    def _worked_out(self, cells):
        """The tuples (cell, value) of the cells that get a value; the others wait for their needs."""
        found = []
        for row, column in cells:
            value, looks = self.cell_looked(row, column)
            if value is not None:
                found.append(((row, column), value))
            else:
                _, where, name = looks[-1]
                needed = (row + STEPS[where], name)
                self._waiting.setdefault(needed, []).append((row, column))
                self._changes.append(("waits", needed, None))
        return found

    def _with_values(self, found):
        """Keeps values, all at once at the end of a round; returns the cells that waited for them."""
        woken = []
        for cell, value in found:
            row, column = cell
            self._rows[row][column] = value
            self._changes.append(("value", cell, None))
            if cell in self._waiting:
                others = self._waiting.pop(cell)
                self._changes.append(("woken", cell, others))
                woken.extend(others)
        return woken


def formulas_of(sheet):
    """A dict from kinds to dicts from columns, in sequence, to formulas."""
    return {kind: {column: sheet.formula(kind, column) for column in sheet.columns} for kind in sheet.kinds()}
