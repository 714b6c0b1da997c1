"""The rows of one kind under their aboves, and the tables that they make up [42]. Each is worked out once."""

from belowneeds.works import EMPTY


class KindRows:
    """The rows of a kind, by what stands above and below them."""

    def __init__(self, numbers, cells):
        """The numbers of what stands around the rows, and what works out their cells."""
        self._numbers = numbers
        self._between = cells.between
        self._many = numbers.many_aboves
        self._rows = {}
        self._overs = {}

    def under(self, above, table):
        """The row under an above, with a table below."""
        return self._under(above, self._numbers.tables[table])

    def lifted(self, table):
        """The table above a table."""
        over = self._overs.get(table)
        if over is None:
            shown = self._numbers.tables[table]
            first = shown[0] * self._many
            found = []
            for above in range(self._many):
                row = self._rows.get(first + above)
                # Most rows are known, and see no more than this.
                if row is None or shown[row.over] != shown[0]:
                    row = self._under(above, shown)
                found.append(row.shown)
            over = self._numbers.numbered(tuple(found))
            self._overs[table] = over
        return over

    def _under(self, above, shown):
        """The row under an above, with what these numbers show below it."""
        rows, many = self._rows, self._many
        # The row knows more at each step, so the table shows more below it, until both stay.
        below = shown[0]
        row = rows.get(below * many + above) or self._worked_out(above, below)
        while shown[row.over] != below:
            below = shown[row.over]
            row = rows.get(below * many + above) or self._worked_out(above, below)
        return row

    def _worked_out(self, above, below):
        """The row with this above, and with what this number shows in the row below."""
        numbers = self._numbers
        row = numbers.row_of(self._between(numbers.cells_above[above], numbers.cells_below[below]))
        self._rows[below * self._many + above] = row
        return row


class LoneRows:
    """The rows of a kind in a sheet that reads nothing above: a row makes a table alone."""

    def __init__(self, numbers, cells):
        """The numbers of what stands around the rows, and what works out their cells."""
        self._numbers = numbers
        self._cells_of = numbers.cells_of
        self._between = cells.between
        self._nothing = cells.nothing
        self._rows = {}

    def under(self, above, table):
        """The row with a table below; there is one above alone."""
        return self._rows.get(table) or self._worked_out(table)

    def lifted(self, table):
        """The table above a table."""
        return (self._rows.get(table) or self._worked_out(table)).lone_table

    def _worked_out(self, table):
        row = self._numbers.row_of(self._between(self._nothing, self._cells_of[table]))
        self._rows[table] = row
        return row


class Cells:
    """Works out the cells of a row of a kind."""

    def __init__(self, width, worths):
        """The number of columns, and for each of them the function that works its cell out."""
        self._width = width
        # A row without values, as its own row is at first, and the row above if nothing there is looked at.
        self.nothing = tuple([EMPTY for _ in range(width)])
        self._asked = list(enumerate(worths, width))

    def between(self, above, below):
        """The tuple of the cells between these, which are tuples, too."""
        cells = list(above + self.nothing + below)
        asked = self._asked
        waiting = _still_empty(cells, asked)
        while 0 < len(waiting) < len(asked):
            asked = waiting
            waiting = _still_empty(cells, asked)
        return tuple(cells[self._width:2 * self._width])


class PlainCells:
    """Works out the cells of a row of a kind, if each looks at one cell beside the row at most."""

    def __init__(self, plain):
        """For each column the tuple of Ways.told_by_one."""
        self._plain = plain
        # The row above if nothing there is looked at.
        self.nothing = ()

    def between(self, above, below):
        """The tuple of the cells between these, which are tuples, too."""
        cells = above + below
        return tuple([told[cells[at]] for at, told in self._plain])


def _still_empty(cells, asked):
    """Works these cells out; returns those that have none."""
    waiting = []
    for at, work in asked:
        value = work(cells, at)
        if value < 0:
            waiting.append((at, work))
        else:
            cells[at] = value
    return waiting
