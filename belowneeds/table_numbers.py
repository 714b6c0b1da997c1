"""The numbers of aboves, of rows and of tables [41] [42], which are quicker to ask for than tuples.

The numbers of aboves are those of the entries. What a row shows to the row above it has a number, too. In all of these
numbers None counts as less than all values. Tables are numbered as they are met.
"""

from belowneeds.aboves import all_aboves, is_less_told
from belowneeds.checks import is_between
from belowneeds.works import EMPTY, works_of


class Row:
    """A row under an above, with what the rows beside it see of it."""

    def __init__(self, cells, over, shown, lone_table):
        """The cells, a tuple, have EMPTY for none; the number of the above that they are, and of what they show.

        If there is one entry alone, the row is all that makes a table.
        """
        self.cells = cells
        self.over = over
        self.shown = shown
        self.lone_table = lone_table
        # The numbers of the columns that have none.
        self.missing = ()
        if EMPTY in cells:
            self.missing = tuple([number for number, value in enumerate(cells) if value < 0])


class TableNumbers:
    """These numbers, for sheets with one modulus and the same columns, also of those that are read up and down."""

    def __init__(self, sheet):
        works = works_of(sheet)
        self._heads = works.heads
        self.width = works.width
        self._base = sheet.modulus + 1
        self._ups = [works.numbers[column] for column in sheet.reads("up")]
        self._downs = [works.numbers[column] for column in sheet.reads("down")]
        self._aboves = all_aboves(sheet)
        self._above_numbers = {above: number for number, above in enumerate(self._aboves)}
        self.many_aboves = len(self._aboves)
        # For each table the tuple of the numbers of what it shows, the cells of a row that shows the first of these,
        # and the table itself if it was asked for.
        self.tables = []
        self.cells_of = []
        self._numbers = {}
        self._told = {}
        # What a row shows, by its number.
        self._shown_values = {}
        # The cells of the row above by its number, and of the row below by what it shows.
        self.cells_above = [self._cells_told(above, self._ups) for above in self._aboves]
        self.cells_below = {}
        # The rows by their cells.
        self._rows = {}

    def blank(self):
        """The table of no rows."""
        return self.constant([None for _ in self._downs])

    def constant(self, values):
        """The table that has these values for each entry."""
        shown = number_in(tuple(values), len(self._downs), self._base)
        return self._passed(tuple([shown for _ in self._aboves]))

    def told_above(self, above):
        """The above with this number."""
        return self._aboves[above]

    def told_table(self, table):
        """The table with this number."""
        if table not in self._told:
            self._told[table] = tuple([self.told_shown(shown) for shown in self.tables[table]])
        return self._told[table]

    def told_shown(self, shown):
        """The tuple of what a row shows."""
        if shown not in self._shown_values:
            self._shown_values[shown] = values_told(shown, len(self._downs), self._base)
        return self._shown_values[shown]

    def values_around(self, above, shown):
        """Two dicts from columns to values or None: what a row sees above it, and what is shown below it."""
        over = {self._heads[number]: value for number, value in zip(self._ups, self._aboves[above])}
        return over, {self._heads[number]: value for number, value in zip(self._downs, self.told_shown(shown))}

    def above_number(self, value):
        """The number of an above, or None for any value that is none."""
        return number_in(value, len(self._ups), self._base)

    def above_of(self, cells):
        """The number of the above that these cells of a row are."""
        return self.above_number(tuple([cells[number] for number in self._ups]))

    def table_number(self, value):
        """The number of a rising table, or None for any value that is none."""
        table = self._table_in(value)
        if table is None or (table not in self._numbers and not self._rises(value)):
            return None
        return self._passed(table)

    def is_table(self, value):
        """Whether this is a table."""
        return self._table_in(value) is not None

    def numbered(self, table):
        """The number of a table of rows, told by the tuple of the numbers of what it shows."""
        number = self._numbers.get(table)
        if number is None:
            number = len(self.tables)
            self._numbers[table] = number
            self.tables.append(table)
            self.cells_of.append(self.cells_below[table[0]])
        return number

    def row_of(self, cells):
        """The row with these cells, a tuple. It is made once: many rows have the same cells."""
        return self._rows.get(cells) or self._new_row(cells)

    def _new_row(self, cells):
        base = self._base
        over = shown = 0
        # As number_in does; this is done too often for a call.
        for number in self._ups:
            over = over * base + cells[number] + 1
        for number in self._downs:
            shown = shown * base + cells[number] + 1
        # What else the row has does not matter: nothing looks at it from above.
        self.cells_below[shown] = cells
        row = Row(cells, over, shown, self.numbered((shown,)) if self.many_aboves == 1 else None)
        self._rows[cells] = row
        return row

    def _passed(self, table):
        """The number of a table that is not one of rows; what it shows can be new."""
        for shown in table:
            if shown not in self.cells_below:
                self.cells_below[shown] = self._cells_told(self.told_shown(shown), self._downs)
        return self.numbered(table)

    def _cells_told(self, told, numbers):
        """The cells of a row that has these values at the columns with these numbers, and none elsewhere."""
        cells = [EMPTY for _ in range(self.width)]
        for number, value in zip(numbers, told):
            cells[number] = EMPTY if value is None else value
        return tuple(cells)

    def _table_in(self, value):
        """The tuple of the numbers of what this table shows, or None for any value that is none."""
        if not isinstance(value, tuple) or len(value) != len(self._aboves):
            return None
        many = len(self._downs)
        table = tuple([number_in(shown, many, self._base) for shown in value])
        return None if None in table else table

    def _rises(self, table):
        """Whether less at an entry never shows more."""
        for number, above in enumerate(self._aboves):
            for position, value in enumerate(above):
                # One value less is enough to ask for: less and less leads to every other entry with less.
                if value is not None:
                    with_less = (*above[:position], None, *above[position + 1:])
                    less = self._above_numbers[with_less]
                    if not is_less_told(table[less], table[number]):
                        return False
        return True


def number_in(value, many, base):
    """The number of a tuple of so many values or None, which sorts as they do; None for any other value."""
    if not isinstance(value, tuple) or len(value) != many:
        return None
    found = 0
    for part in value:
        if part is None:
            found = found * base
        elif is_between(part, 0, base - 2):
            found = found * base + part + 1
        else:
            return None
    return found


def values_told(number, many, base):
    """The tuple of so many values or None that has this number."""
    told = []
    for _ in range(many):
        number, digit = divmod(number, base)
        told.append(digit - 1 if digit > 0 else None)
    return tuple(told[::-1])
