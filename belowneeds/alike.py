"""Columns that show the same values for all fills [71], or not, and papers for both [73]."""

from belowneeds.aboves import check_entries
from belowneeds.checks import is_between
from belowneeds.endless import LAST_LOOKED_AT, Endless
from belowneeds.errors import NotFull, OtherPlan
from belowneeds.fills import Fill, first_refused
from belowneeds.fullness import delays, fill_through
from belowneeds.joint import JointRows, joint_of
from belowneeds.layering import layers_of
from belowneeds.layers import MAX_TABLES, check_count
from belowneeds.paper_checks import PaperCheck
from belowneeds.rows_under import rows_of
from belowneeds.sheet_checks import check_column

MAX_PAIRS = 1500


def are_alike(one, column, other, other_column, *, limit=MAX_TABLES, pairs=MAX_PAIRS):
    """Whether two full columns show the same values for all fills."""
    found = _joint_of_full(one, column, other, other_column, limit, pairs)
    return _first_different(found, one, column, other, other_column) is None


def first_unlike(one, column, other, other_column, *, limit=MAX_TABLES, pairs=MAX_PAIRS):
    """A tuple (row, fill, value, other value) for the first row in which they can differ; None if they are alike."""
    found = _joint_of_full(one, column, other, other_column, limit, pairs)
    below = _first_different(found, one, column, other, other_column)
    if below is None:
        return None
    standings = found.live_standings()
    index, _, _, row = below
    value, other_value = _values(row, one.columns.index(column), other.columns.index(other_column))
    return (standings.nearest(index), fill_through(found.layers, standings, below), value, other_value)


def alike_paper(one, column, other, other_column, *, limit=MAX_TABLES, pairs=MAX_PAIRS):
    """An alike paper for two full columns, or None if they are not alike."""
    found = _joint_of_full(one, column, other, other_column, limit, pairs)
    if _first_different(found, one, column, other, other_column) is not None:
        return None
    standings = found.live_standings()
    return (found.layers.listed(), standings.told(standings.found()))


def is_alike_paper(one, column, other, other_column, value):
    """Whether this is an alike paper for the two columns."""
    _check_columns(one, column, other, other_column)
    source = JointRows(rows_of(one), rows_of(other))
    if not isinstance(value, tuple) or len(value) != 2:
        return False
    listed, standings = value
    number, other_number = one.columns.index(column), other.columns.index(other_column)
    check = PaperCheck(one.plan(), source, None)
    return check.holds(listed, standings, lambda row: not _are_different(row, number, other_number))


def is_unlike_paper(one, column, other, other_column, value):
    """Whether this is an unlike paper for the two columns."""
    _check_columns(one, column, other, other_column)
    check_entries(one)
    check_entries(other)
    if not isinstance(value, tuple) or len(value) != 2:
        return False
    fill, row = value
    if not isinstance(fill, Fill) or not is_between(row, 1, LAST_LOOKED_AT) or first_refused(one, fill) is not None:
        return False
    found = (Endless(one, fill).value_at(row, column), Endless(other, fill).value_at(row, other_column))
    return None not in found and found[0] != found[1]


def joint_tables(one, other, *, pairs=MAX_PAIRS):
    """The sorted list of the tuples (place, table, other table, out) of joint layer 0."""
    _check_plans(one, other)
    check_count(pairs)
    found = joint_of(one, other)
    found.layers.find_all("pairs", pairs)
    return found.layers.listed()


def change_told(sheet, kind, column, formula, seen, *, limit=MAX_TABLES, pairs=MAX_PAIRS):
    """What comes of another formula for a column that is seen: "alike", "unlike" or "not full"."""
    changed = _changed(sheet, kind, column, formula)
    check_column(seen, sheet)
    check_count(limit)
    check_count(pairs)
    found = _joint_of_all(sheet, changed, limit, pairs)
    if delays(sheet, limit=limit)[seen] is None:
        raise NotFull(seen)
    if delays(changed, limit=limit)[seen] is None:
        return "not full"
    return "alike" if _first_different(found, sheet, seen, changed, seen) is None else "unlike"


def _changed(sheet, kind, column, formula):
    """The sheet with this formula instead. The last one for each kind and column is kept."""
    # Refuses what is no kind or no column.
    sheet.formula(kind, column)
    kept = sheet.kept.setdefault("changed", {})
    if (kind, column) not in kept or kept[(kind, column)].formula(kind, column) != formula:
        kept[(kind, column)] = sheet.with_formula(kind, column, formula)
    return kept[(kind, column)]


def _check_plans(one, other):
    if not one.has_plan_of(other):
        raise OtherPlan()


def _check_columns(one, column, other, other_column):
    check_column(column, one)
    check_column(other_column, other)
    _check_plans(one, other)


def _joint_of_all(one, other, limit, pairs):
    """The joint layers; refuses too many entries, tables and pairs, in this sequence."""
    found = joint_of(one, other)
    layers_of(one, limit)
    layers_of(other, limit)
    found.layers.find_all("pairs", pairs)
    return found


def _joint_of_full(one, column, other, other_column, limit, pairs):
    """The joint layers of two sheets, if these columns can be compared."""
    _check_columns(one, column, other, other_column)
    check_count(limit)
    check_count(pairs)
    found = _joint_of_all(one, other, limit, pairs)
    for sheet, name in ((one, column), (other, other_column)):
        if delays(sheet, limit=limit)[name] is None:
            raise NotFull(name)
    return found


def _first_different(found, one, column, other, other_column):
    """The nearest row to row 1 below a live standing in which the two columns differ, or None."""
    number, other_number = one.columns.index(column), other.columns.index(other_column)
    return found.live_standings().first_below(lambda below: _are_different(below[3], number, other_number))


def _are_different(row, number, other_number):
    """Whether a joint row has two different values at these columns."""
    value, other_value = _values(row, number, other_number)
    return value >= 0 and other_value >= 0 and value != other_value


def _values(row, number, other_number):
    return row.one.cells[number], row.other.cells[other_number]
