"""Which references are ever followed [81], and which columns show one value alone."""

from belowneeds.checks import is_between, is_integer
from belowneeds.courses import Course
from belowneeds.endless import LAST_LOOKED_AT
from belowneeds.errors import InvalidPosition, InvalidRow, NotAllowed, NotFull
from belowneeds.fills import first_refused
from belowneeds.formulas import Reference
from belowneeds.fullness import delays, fill_through, first_open_column
from belowneeds.layering import layers_of
from belowneeds.layers import MAX_TABLES
from belowneeds.rows_under import rows_of
from belowneeds.sheet_checks import check_column, check_kind
from belowneeds.standing import standings_of
from belowneeds.steps import PLACE_BITS


def never_followed(sheet, *, limit=MAX_TABLES):
    """The sorted list of the occurrences that are never followed, of a full sheet."""
    _check_full(sheet, limit)
    followed = _all_followed(sheet, limit)
    found = []
    for kind in sheet.kinds():
        for column in sheet.columns:
            for number in _references(sheet.formula(kind, column)):
                if (kind, column, number) not in followed:
                    found.append((kind, column, number))
    return sorted(found)


def where_followed(sheet, kind, column, number, *, limit=MAX_TABLES):
    """A tuple (fill, row) for the least row in which the occurrence is followed, or None if it never is."""
    _check_occurrence(sheet, kind, column, number)
    _check_full(sheet, limit)
    layers, standings = layers_of(sheet, limit), standings_of(sheet, limit)
    looks = RowLooks(sheet, layers, standings)
    below = standings.first_below(lambda told: told[1] == kind and looks.is_followed(told, column, number))
    return None if below is None else (fill_through(layers, standings, below), standings.nearest(below[0]))


def is_followed(sheet, kind, column, number, fill, row):
    """Whether the occurrence is followed in this row of this fill, and its cell has a value."""
    _check_occurrence(sheet, kind, column, number)
    refused = first_refused(sheet, fill)
    if refused is not None:
        raise NotAllowed(refused)
    if not is_between(row, 1, LAST_LOOKED_AT):
        raise InvalidRow(row)
    course = Course(sheet, fill)
    if course.kind_at(row) != kind:
        return False
    above, own, below = course.row_values(row - 1), course.row_values(row), course.row_values(row + 1)
    value, looks = sheet.formula(kind, column).looked(sheet.modulus, above, own, below)
    return value is not None and number in [node for node, _, _ in looks]


def constant_value(sheet, column, *, limit=MAX_TABLES):
    """The one value that a full column shows in all rows of all fills, or None if it shows several."""
    check_column(column, sheet)
    if delays(sheet, limit=limit)[column] is None:
        raise NotFull(column)
    layers, standings = layers_of(sheet, limit), standings_of(sheet, limit)
    position = sheet.columns.index(column)
    shown = {}
    for _, _, key, row in standings.belows():
        if layers.out_of(key) is None:
            shown[row.cells[position]] = True
    return min(shown) if len(shown) == 1 else None


def is_occurrence(sheet, kind, column, number):
    """Whether a sheet has this kind and this column, and a reference in the node with this number there."""
    if not isinstance(kind, str) or not isinstance(column, str):
        return False
    if kind not in sheet.kinds() or column not in sheet.columns:
        return False
    return is_integer(number) and number in _references(sheet.formula(kind, column))


class RowLooks:
    """What the formulas of the rows below live standings work out, in the rows of a full sheet."""

    def __init__(self, sheet, layers, standings):
        self._sheet = sheet
        self._layers = layers
        self._source = rows_of(sheet)
        self._found = standings.found()

    def is_live(self, below):
        """Whether the row can stand in an endless sheet, with the table below it."""
        return self._layers.out_of(below[2]) is None

    def is_followed(self, below, column, number):
        """Whether a reference of the formula of this column is worked out in a row that can stand so."""
        return self.is_live(below) and number in self.numbers_met(below, column)

    def around(self, below):
        """A tuple of the numbers of what the row sees above it and below it."""
        index, _, key, row = below
        above, _ = self._found[index]
        return above, self._source.shown_below(row, key >> PLACE_BITS)

    def numbers_met(self, below, column):
        """The numbers of the references that are worked out in the formula of this column."""
        _, kind, _, row = below
        above, seen = self.around(below)
        over, shown = self._source.numbers.values_around(above, seen)
        looks = self._sheet.formula(kind, column).met(self._sheet.modulus, over, self._source.row_told(row), shown)
        return [number for number, _, _ in looks]


def _all_followed(sheet, limit):
    """A dict whose keys are the occurrences that are followed."""
    standings = standings_of(sheet, limit)
    looks = RowLooks(sheet, layers_of(sheet, limit), standings)
    found = {}
    # Each row is worked out once for what stands around it, and often stands below several standings.
    done = {}
    for below in standings.belows():
        kind, around = below[1], looks.around(below)
        if looks.is_live(below) and (kind, around) not in done:
            done[(kind, around)] = True
            for column in sheet.columns:
                for number in looks.numbers_met(below, column):
                    found[(kind, column, number)] = True
    return found


def _references(formula):
    """The numbers of the nodes that are references."""
    return [number for number, node in formula.nodes() if isinstance(node, Reference)]


def _check_occurrence(sheet, kind, column, number):
    check_kind(kind, sheet)
    check_column(column, sheet)
    if not is_occurrence(sheet, kind, column, number):
        raise InvalidPosition(number)


def _check_full(sheet, limit):
    """Refuses a wrong limit, and then a sheet with an open column."""
    column = first_open_column(sheet, limit)
    if column is not None:
        raise NotFull(column)
