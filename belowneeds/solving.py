"""The least solution of the formulas of rows [31], which grows with the rows."""

from belowneeds.works import EMPTY, works_of


class Solution:
    """The values of the cells of some rows, and what the other cells wait for.

    The cells stand in one list: the top, the rows, and the foot, or a row without values in its place.
    """

    def __init__(self, sheet, foot):
        """No row yet; the foot is a dict from columns to values, or None."""
        self._works = works_of(sheet)
        self._many = self._works.width
        below = [EMPTY for _ in self._works.heads] if foot is None else [foot[column] for column in self._works.heads]
        self.cells = [*self._works.top_cells, *below]
        self._word = []
        # For each cell, how it is worked out; nothing stands in the top.
        self._worths = [None for _ in self._works.heads]
        # For a cell, those whose formulas needed it. They stay behind it when it has a value, as that can be
        # taken back.
        self._waiting = {}
        # What was done, so that it can be taken back: a cell that got a value, or -1 less the cell that is needed.
        self._changes = []

    def copied(self, sheet):
        """An independent one of the same sheet, of which nothing can be taken back."""
        other = Solution(sheet, None)
        other.cells = list(self.cells)
        other._worths = list(self._worths)
        other._word = list(self._word)
        other._waiting = {cell: list(self._waiting[cell]) for cell in self._waiting}
        return other

    def add_rows(self, kinds):
        """Adds a row for each kind; returns the number of rounds that change something then."""
        begin = len(self._worths)
        foot = self.cells[begin:]
        del self.cells[begin:]
        for kind in kinds:
            self._worths.extend(self._works.worths_of(kind))
            self._word.append(kind)
        end = len(self._worths)
        self.cells.extend([EMPTY for _ in range(begin, end)])
        self.cells.extend(foot)
        rounds = 0
        cells = list(range(begin, end))
        while cells:
            cells, changed = self._round(cells)
            rounds += 1 if changed else 0
        return rounds

    def many_changes(self):
        """How many changes were made, and not taken back."""
        return len(self._changes)

    def take_back(self, changes, rows):
        """Takes back all changes but the first so many, and all rows but the first so many."""
        while len(self._changes) > changes:
            change = self._changes.pop()
            if change >= 0:
                self.cells[change] = EMPTY
            else:
                self._waiting[-1 - change].pop()
        begin = (rows + 1) * self._many
        end = len(self._worths)
        del self.cells[begin:end]
        del self._worths[begin:]
        del self._word[rows:]

    def row_values(self, row):
        """A dict from the columns, in sequence, to values or None."""
        return self._works.row_told(self.cells[row * self._many:(row + 1) * self._many])

    def is_complete(self, row):
        """Whether all cells of this row have values; without a foot, the row below the last one has none."""
        begin = row * self._many
        return EMPTY not in self.cells[begin:begin + self._many]

    def has_cell(self, at):
        """Whether a cell of a row stands at this position, neither the top nor what is below the last row."""
        return self._many <= at < len(self._worths)

    def in_sequence(self):
        """The cells that got values, in the sequence in which they got them."""
        return [cell for cell in self._changes if cell >= 0]

    def next_of(self, at):
        """The position of the need of the cell at this position; None for a value."""
        work = self._worths[at]
        told = work(self.cells, at)
        return self._works.needed(at, told) if told < 0 else None

    def sights(self):
        """For each cell, how what it looks at is found; nothing stands in the top."""
        found = [None for _ in self._works.heads]
        for kind in self._word:
            found.extend(self._works.sights_of(kind))
        return found

    def _round(self, asked):
        """Works these cells out, from what was there before; returns those to work out next, and if one got a value."""
        cells, worths, waiting = self.cells, self._worths, self._waiting
        span = 2 * self._many
        found = []
        values = []
        for cell in asked:
            work = worths[cell]
            value = work(cells, cell)
            if value >= 0:
                found.append(cell)
                values.append(value)
            else:
                # As Works.needed tells; this is done too often for a call.
                needed = cell + value + span
                if needed in waiting:
                    waiting[needed].append(cell)
                else:
                    waiting[needed] = [cell]
                self._changes.append(-1 - needed)
        self._changes.extend(found)
        woken = []
        for cell, value in zip(found, values):
            cells[cell] = value
            if cell in waiting:
                woken.extend(waiting[cell])
        return woken, len(found) > 0
