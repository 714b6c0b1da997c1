"""Which cells the cells of some rows look at [32] [33], at once or by way of others."""

from belowneeds.solving import STEPS


class Sights:
    """What the cells of rows look at; each formula is worked out once."""

    def __init__(self, rows):
        """The rows tell which of them there are, and what each cell looks at: has_row and cell_looked."""
        self._among = rows
        self._found = {}
        self._lowest = {}

    def next_of(self, cell):
        """The cell to which the need of the formula leads, in a row or beyond them; None for a value."""
        value, cells = self._looked(cell)
        return cells[-1] if value is None else None

    def lowest(self, cell):
        """The greatest row among the cells that a cell with a value meets."""
        waiting = [cell]
        while waiting:
            cells = self._met_at_once(waiting[-1])
            missing = [other for other in cells if other not in self._lowest]
            if missing:
                waiting.extend(missing)
            else:
                row, column = waiting.pop()
                self._lowest[(row, column)] = max([row, *[self._lowest[other] for other in cells]])
        return self._lowest[cell]

    def all_met(self, cell):
        """The sorted list of the cells that a cell with a value meets."""
        met = {cell: True}
        waiting = [cell]
        while waiting:
            cells = self._met_at_once(waiting.pop())
            for other in cells:
                if other not in met:
                    met[other] = True
                    waiting.append(other)
        return sorted(met)

    def _met_at_once(self, cell):
        _, cells = self._looked(cell)
        return [(row, column) for row, column in cells if self._among.has_row(row)]

    def _looked(self, cell):
        """The value or None, and the cells to which the references lead that are worked out, in sequence."""
        if cell not in self._found:
            row, column = cell
            value, looks = self._among.cell_looked(row, column)
            self._found[cell] = (value, [(row + STEPS[where], name) for _, where, name in looks])
        return self._found[cell]
