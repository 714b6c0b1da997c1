"""Rows under aboves, and the tables that they make up [42].

Aboves, what a row shows to the row above it, and tables have numbers here, which are quicker to ask for than tuples.
The numbers of aboves are those of the entries; in all of these numbers None counts as less than all values.
"""

from belowneeds.aboves import all_aboves, check_entries, is_less_told
from belowneeds.checks import is_between
from belowneeds.works import EMPTY, works_of


class Row:
    """A row under an above, with what the rows beside it see of it."""

    def __init__(self, cells, over, shown):
        """The cells have EMPTY for none; the number of the above that they are, and of what they show."""
        self.cells = cells
        self.over = over
        self.shown = shown


class RowsUnder:
    """The rows of a sheet under its aboves. Each is worked out once for what stands around it."""

    def __init__(self, sheet):
        self._works = works_of(sheet)
        self._base = sheet.modulus + 1
        self._begin = self._works.width
        self._ups = [self._works.numbers[column] for column in sheet.reads("up")]
        self._downs = [self._works.numbers[column] for column in sheet.reads("down")]
        self._aboves = all_aboves(sheet)
        self._above_numbers = {above: number for number, above in enumerate(self._aboves)}
        self.many_aboves = len(self._aboves)
        self._all_numbers = list(range(self.many_aboves))
        # The cells of a row without values, and of the rows beside it, by numbers.
        self._empty = [EMPTY for _ in self._works.heads]
        self._cells_above = [self._cells_told(above, self._ups) for above in self._aboves]
        self._cells_below = {}
        # What a row shows, by its number.
        self._shown_values = {}
        # For each kind, how the cells of a row of it are worked out, when it is asked for.
        self._asked = {}
        self._rows = {kind: {} for kind in sheet.kinds()}
        self._overs = {kind: {} for kind in sheet.kinds()}
        self._tables = []
        self._table_numbers = {}
        # A table is told by one tuple; see JointRows.
        self.told_parts = 1
        self.top_number = self.above_number(tuple([self._works.top_cells[number] for number in self._ups]))

    def blank(self):
        """The table of no rows."""
        return self.constant([None for _ in self._downs])

    def constant(self, values):
        """The table that has these values for each entry."""
        shown = number_in(tuple(values), len(self._downs), self._base)
        return self._numbered(tuple([shown for _ in self._aboves]))

    def told_above(self, above):
        """A tuple with the above of this number."""
        return (self._aboves[above],)

    def told_table(self, table):
        """A tuple with the table of this number."""
        return (tuple([self._shown_told(shown) for shown in self._tables[table]]),)

    def in_order(self, table):
        """A key to sort tables by."""
        return self._tables[table]

    def above_in(self, parts):
        """The number of the above in this tuple, or None if it is none."""
        return self.above_number(parts[0])

    def table_in(self, parts):
        """The number of the rising table in this tuple, or None if it is none."""
        return self.table_number(parts[0])

    def above_number(self, value):
        """The number of an above, or None for any value that is none."""
        return number_in(value, len(self._ups), self._base)

    def table_number(self, value):
        """The number of a rising table, or None for any value that is none."""
        table = self._table_in(value)
        if table is None or (table not in self._table_numbers and not self._rises(value)):
            return None
        return self._numbered(table)

    def is_table(self, value):
        """Whether this is a table."""
        return self._table_in(value) is not None

    def row_told(self, row):
        """A dict from the columns, in sequence, to values or None."""
        return self._works.row_told(row.cells)

    def values_around(self, above, row, table):
        """Two dicts from columns to values or None: what a row sees above it, and below it, with this table there."""
        shown = self._shown_told(self._tables[table][row.over])
        heads = self._works.heads
        over = {heads[number]: value for number, value in zip(self._ups, self._aboves[above])}
        return over, {heads[number]: value for number, value in zip(self._downs, shown)}

    def under(self, above, kind, table):
        """The row under an above, of a kind, with a table below."""
        return self._all_under((above,), kind, table)[0]

    def table_above(self, kind, table):
        """The table above a table, for a kind."""
        overs = self._overs[kind]
        over = overs.get(table)
        if over is None:
            rows = self._all_under(self._all_numbers, kind, table)
            over = self._numbered(tuple([row.shown for row in rows]))
            overs[table] = over
        return over

    def _all_under(self, aboves, kind, table):
        """The rows under these aboves, of a kind, with a table below."""
        shown = self._tables[table]
        many = len(shown)
        rows = self._rows[kind]
        found = []
        for above in aboves:
            # The row knows more at each step, so the table shows more below it, until both stay.
            below = shown[0]
            row = None
            while row is None or shown[row.over] != below:
                below = below if row is None else shown[row.over]
                row = rows.get(below * many + above)
                if row is None:
                    row = self._between(above, kind, below)
                    rows[below * many + above] = row
            found.append(row)
        return found

    def _between(self, above, kind, below):
        """The row of this kind, with this above, and with what this number shows in the row below."""
        if below not in self._cells_below:
            self._cells_below[below] = self._cells_told(self._shown_told(below), self._downs)
        cells = self._cells_above[above] + self._empty + self._cells_below[below]
        if kind not in self._asked:
            self._asked[kind] = list(enumerate(self._works.worths_of(kind), self._begin))
        asked = self._asked[kind]
        waiting = self._still_empty(cells, asked)
        while 0 < len(waiting) < len(asked):
            asked = waiting
            waiting = self._still_empty(cells, asked)
        found = cells[self._begin:2 * self._begin]
        over = shown = 0
        # As number_in does; this is done too often for a call.
        for number in self._ups:
            over = over * self._base + found[number] + 1
        for number in self._downs:
            shown = shown * self._base + found[number] + 1
        # What else the row has does not matter: nothing looks at it from above.
        self._cells_below[shown] = found
        return Row(found, over, shown)

    def _still_empty(self, cells, asked):
        """Works these cells out; returns those that have none."""
        waiting = []
        for at, work in asked:
            value = work(cells, at)
            if value < 0:
                waiting.append((at, work))
            else:
                cells[at] = value
        return waiting

    def _cells_told(self, told, numbers):
        """The cells of a row that has these values at the columns with these numbers, and none elsewhere."""
        cells = list(self._empty)
        for number, value in zip(numbers, told):
            cells[number] = EMPTY if value is None else value
        return cells

    def _shown_told(self, shown):
        if shown not in self._shown_values:
            self._shown_values[shown] = values_told(shown, len(self._downs), self._base)
        return self._shown_values[shown]

    def _table_in(self, value):
        """The tuple of the numbers of what this table shows, or None for any value that is none."""
        if not isinstance(value, tuple) or len(value) != len(self._aboves):
            return None
        many = len(self._downs)
        table = tuple([number_in(shown, many, self._base) for shown in value])
        return None if None in table else table

    def _numbered(self, table):
        number = self._table_numbers.get(table)
        if number is None:
            number = len(self._tables)
            self._table_numbers[table] = number
            self._tables.append(table)
        return number

    def _rises(self, table):
        """Whether less at an entry never shows more."""
        for number, above in enumerate(self._aboves):
            for position, value in enumerate(above):
                # One value less is enough to ask for: less and less leads to every other entry with less.
                if value is not None:
                    less = self._above_numbers[(*above[:position], None, *above[position + 1:])]
                    if not is_less_told(table[less], table[number]):
                        return False
        return True


def rows_of(sheet):
    """The rows of a sheet, which are made once; refuses a sheet with too many aboves."""
    check_entries(sheet)
    if "rows" not in sheet.kept:
        sheet.kept["rows"] = RowsUnder(sheet)
    return sheet.kept["rows"]


def number_in(value, many, base):
    """The number of a tuple of so many values or None, which sorts as they do; None for any other value."""
    if not isinstance(value, tuple) or len(value) != many:
        return None
    found = 0
    for part in value:
        if part is None:
            found = found * base
        elif is_between(part, 0, base - 2):
            found = found * base + part + 1
        else:
            return None
    return found


def values_told(number, many, base):
    """The tuple of so many values or None that has this number."""
    told = []
    for _ in range(many):
        number, digit = divmod(number, base)
        told.append(digit - 1 if digit > 0 else None)
    return tuple(told[::-1])
