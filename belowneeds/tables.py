"""Tables [41], which tell what the rows from some row on show, and how they are made [42]."""

from belowneeds.aboves import all_aboves, are_values, check_entries, is_less_told
from belowneeds.errors import InvalidAbove, InvalidTable
from belowneeds.rows_under import RowsUnder
from belowneeds.sheet_checks import check_foot, check_kind


def entries(sheet):
    """The sorted list of all aboves."""
    check_entries(sheet)
    return all_aboves(sheet)


def blank(sheet):
    """The table of no rows."""
    return RowsUnder(sheet).blank()


def foot_table(sheet, foot):
    """The table of no rows with this foot."""
    check_foot(foot, sheet)
    return _with_foot(RowsUnder(sheet), sheet, foot)


def is_table(sheet, value):
    """Whether this is a table of the sheet."""
    check_entries(sheet)
    if not isinstance(value, tuple) or len(value) != len(all_aboves(sheet)):
        return False
    columns = sheet.reads("down")
    return all([are_values(shown, columns, sheet.modulus) for shown in value])


def is_rising(sheet, value):
    """Whether this is a rising table of the sheet."""
    return is_table(sheet, value) and _rises(all_aboves(sheet), value)


def row_under(sheet, above, kind, table):
    """The row under an above: a dict from the columns to values or None."""
    check_entries(sheet)
    if not are_values(above, sheet.reads("up"), sheet.modulus):
        raise InvalidAbove(above)
    check_kind(kind, sheet)
    check_table(table, sheet)
    return dict(RowsUnder(sheet).under(above, kind, table).told)


def table_above(sheet, kind, table):
    """The table above a table, for a kind."""
    check_kind(kind, sheet)
    check_table(table, sheet)
    return RowsUnder(sheet).table_above(kind, table)


def table_of(sheet, word, *, place=0, foot=None):
    """The table of a word that is allowed from a place."""
    sheet.place_behind(word, place=place)
    if foot is not None:
        check_foot(foot, sheet)
    source = RowsUnder(sheet)
    table = source.blank() if foot is None else _with_foot(source, sheet, foot)
    for kind in word[::-1]:
        table = source.table_above(kind, table)
    return table


def check_table(value, sheet):
    """Refuses a sheet with too many aboves, and then what is no rising table of it."""
    if not is_rising(sheet, value):
        raise InvalidTable(value)


def _with_foot(source, sheet, foot):
    return source.constant([foot[column] for column in sheet.reads("down")])


def _rises(aboves, table):
    """Whether less at an entry never shows more."""
    numbers = {above: number for number, above in enumerate(aboves)}
    for number, above in enumerate(aboves):
        for position, value in enumerate(above):
            # One value less is enough to ask for: less and less leads to every other entry with less.
            if value is not None:
                less = (*above[:position], None, *above[position + 1:])
                if not is_less_told(table[numbers[less]], table[number]):
                    return False
    return True
