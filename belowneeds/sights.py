"""Which cells of a cut its cells look at [32] [33], at once or by way of others."""


class CutSights:
    """What the cells of a cut look at; the cells are positions in the list of its solution."""

    def __init__(self, solution, columns):
        self._solution = solution
        self._heads = columns
        self._many = len(columns)
        self._numbers = {column: number for number, column in enumerate(columns)}
        # How what a cell looks at is found, and for each cell with a value the greatest row that it meets; both are
        # made when they are asked for.
        self._looks = None
        self._lowest = None

    def position_of(self, row, column):
        """The position of a cell."""
        return row * self._many + self._numbers[column]

    def cell_at(self, at):
        """The tuple (row, column) for a position."""
        return (at // self._many, self._heads[at % self._many])

    def value_at(self, at):
        """The value at a position, or None."""
        value = self._solution.cells[at]
        return None if value < 0 else value

    def walk(self, at):
        """The cells of the walk and the position to which it comes back, or None."""
        cells = []
        if self.value_at(at) is not None:
            return (cells, None)
        positions = {}
        while at not in positions and self._solution.has_cell(at):
            positions[at] = len(cells)
            cells.append(self.cell_at(at))
            at = self._solution.next_of(at)
        return (cells, positions.get(at))

    def lowest_row(self, at):
        """The greatest row among the cells that a cell with a value meets."""
        if self._lowest is None:
            self._lowest = self._all_lowest()
        return self._lowest[at]

    def all_met(self, at):
        """The sorted list of the cells that a cell with a value meets."""
        solution = self._solution
        seen = {at}
        found = [at]
        done = 0
        while done < len(found):
            here = found[done]
            for way in self._looked_at(here):
                other = here + way
                if other not in seen and solution.has_cell(other):
                    seen.add(other)
                    found.append(other)
            done += 1
        return sorted([self.cell_at(cell) for cell in found])

    def _looked_at(self, at):
        """How far on the cells lie to which the references lead that are worked out, of a cell with a value."""
        if self._looks is None:
            self._looks = self._solution.sights()
        sight = self._looks[at]
        return sight(self._solution.cells, at)

    def _all_lowest(self):
        solution = self._solution
        lowest = {}
        # What a cell looks at got its value in an earlier round.
        for at in solution.in_sequence():
            least = at // self._many
            for way in self._looked_at(at):
                if solution.has_cell(at + way):
                    least = max(least, lowest[at + way])
            lowest[at] = least
        return lowest
