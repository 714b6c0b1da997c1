"""The rows of a sheet under its aboves, and the tables that they make up [42]."""

from belowneeds.aboves import check_entries
from belowneeds.kind_rows import Cells, KindRows, LoneRows, PlainCells
from belowneeds.steps import PLACE_BITS, PLACE_MASK, Finder, Steps
from belowneeds.table_numbers import TableNumbers
from belowneeds.works import works_of

# Sheets get no tables in common any more if there are more of them: they stay as long as one of the sheets does.
MOST_SHARED = 4000


class RowsUnder:
    """The rows of a sheet under its aboves, by kinds. Each is worked out once for what stands around it."""

    def __init__(self, sheet, numbers):
        """The numbers can be those of another sheet, too, that sees the same."""
        self._works = works_of(sheet)
        self._plan = sheet.plan()
        # Aboves and tables have these numbers here.
        self.numbers = numbers
        self.many_aboves = numbers.many_aboves
        # These are made for a kind when it is asked for.
        self._kinds = {}
        self._steps_up = None
        # A table is told by one tuple; see JointRows.
        self.told_parts = 1
        self.top_number = numbers.above_of(self._works.top_cells)

    def take_kinds(self, others):
        """Takes the rows of the kinds that have the same formulas in another sheet, which has the same numbers."""
        for kind, formulas in self._works.formulas.items():
            if others.has_formulas(kind, formulas):
                self._kinds[kind] = others.of_kind(kind)

    def has_formulas(self, kind, formulas):
        """Whether the sheet has a kind with these formulas."""
        return self._works.formulas.get(kind) == formulas

    def of_kind(self, kind):
        """The rows of a kind."""
        if kind not in self._kinds:
            cells = self._maker_of(kind)
            is_lone = self.many_aboves == 1
            self._kinds[kind] = LoneRows(self.numbers, cells) if is_lone else KindRows(self.numbers, cells)
        return self._kinds[kind]

    def under(self, above, kind, table):
        """The row under an above, of a kind, with a table below."""
        return self.of_kind(kind).under(above, table)

    def table_above(self, kind, table):
        """The table above a table, for a kind."""
        return self.of_kind(kind).lifted(table)

    def steps_up(self):
        """What stands above the places and tables of the sheet."""
        if self._steps_up is None:
            self._steps_up = Steps(self._plan, self)
        return self._steps_up

    def finder(self, keys):
        """What finds all places and tables that stand above some."""
        return Finder(self.steps_up(), keys)

    def blank(self):
        """The table of no rows."""
        return self.numbers.blank()

    def told_above(self, above):
        """A tuple with the above of this number."""
        return (self.numbers.told_above(above),)

    def told_pairs(self, keys):
        """For each of these keys (see steps.py) the tuple of the place and the table."""
        told = self.told_tables([key >> PLACE_BITS for key in keys])
        return [(key & PLACE_MASK, told[key >> PLACE_BITS]) for key in keys]

    def ranks(self, keys):
        """For each of these keys a number; they rise as places and tables are sorted."""
        ranks = self.table_ranks([key >> PLACE_BITS for key in keys])
        many = len(ranks)
        return [(key & PLACE_MASK) * many + ranks[key >> PLACE_BITS] for key in keys]

    def told_tables(self, tables):
        """A dict from the numbers of these tables to the tables."""
        different = {table: True for table in tables}
        return {table: self.numbers.told_table(table) for table in different}

    def table_ranks(self, tables):
        """A dict from the numbers of these tables to their ranks, as they are sorted."""
        shown = self.numbers.tables
        different = {table: True for table in tables}
        ordered = sorted([(shown[table], table) for table in different])
        return {table: rank for rank, (_, table) in enumerate(ordered)}

    def above_in(self, parts):
        """The number of the above in this tuple, or None if it is none."""
        return self.numbers.above_number(parts[0])

    def table_in(self, parts):
        """The number of the rising table in this tuple, or None if it is none."""
        return self.numbers.table_number(parts[0])

    def shown_below(self, row, table):
        """The number of what this row sees of the row below it, with this table there."""
        return self.numbers.tables[table][row.over]

    def row_told(self, row):
        """A dict from the columns, in sequence, to values or None."""
        return self._works.row_told(row.cells)

    def _maker_of(self, kind):
        """What works out the cells of the rows of a kind."""
        plain = self._works.plain_of(kind)
        return Cells(self._works.width, self._works.worths_of(kind)) if plain is None else PlainCells(plain)


def rows_of(sheet):
    """The rows of a sheet, which are made once; refuses a sheet with too many aboves."""
    if "rows" not in sheet.kept:
        check_entries(sheet)
        sheet.kept["rows"] = RowsUnder(sheet, TableNumbers(sheet))
    return sheet.kept["rows"]


def share_rows(sheet, other):
    """Lets a sheet use the rows of another one, as far as they are the same; refuses sheets with too many aboves."""
    source = rows_of(sheet)
    if "rows" in other.kept:
        return
    check_entries(other)
    if _see_the_same(sheet, other) and len(source.numbers.tables) <= MOST_SHARED:
        other.kept["rows"] = RowsUnder(other, source.numbers)
        other.kept["rows"].take_kinds(source)


def _see_the_same(sheet, other):
    """Whether the numbers of what the rows see are the same for two sheets."""
    if sheet.modulus != other.modulus or sheet.columns != other.columns:
        return False
    return all([sheet.reads(where) == other.reads(where) for where in ("up", "down")])
