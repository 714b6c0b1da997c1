"""Tables [41], which tell what the rows from some row on show, and how they are made [42]."""

from belowneeds.aboves import all_aboves, check_entries
from belowneeds.errors import InvalidAbove, InvalidTable
from belowneeds.rows_under import rows_of
from belowneeds.sheet_checks import check_foot, check_kind


def entries(sheet):
    """The sorted list of all aboves."""
    check_entries(sheet)
    return all_aboves(sheet)


def blank(sheet):
    """The table of no rows."""
    numbers = rows_of(sheet).numbers
    return numbers.told_table(numbers.blank())


def foot_table(sheet, foot):
    """The table of no rows with this foot."""
    check_foot(foot, sheet)
    return rows_of(sheet).numbers.told_table(table_with_foot(sheet, foot))


def is_table(sheet, value):
    """Whether this is a table of the sheet."""
    return rows_of(sheet).numbers.is_table(value)


def is_rising(sheet, value):
    """Whether this is a rising table of the sheet."""
    return rows_of(sheet).numbers.table_number(value) is not None


def row_under(sheet, above, kind, table):
    """The row under an above: a dict from the columns to values or None."""
    source = rows_of(sheet)
    number = source.numbers.above_number(above)
    if number is None:
        raise InvalidAbove(above)
    check_kind(kind, sheet)
    return source.row_told(source.under(number, kind, numbered_table(table, sheet)))


def table_above(sheet, kind, table):
    """The table above a table, for a kind."""
    check_kind(kind, sheet)
    number = numbered_table(table, sheet)
    source = rows_of(sheet)
    return source.numbers.told_table(source.table_above(kind, number))


def table_of(sheet, word, *, place=0, foot=None):
    """The table of a word that is allowed from a place."""
    sheet.place_behind(word, place=place)
    if foot is not None:
        check_foot(foot, sheet)
    source = rows_of(sheet)
    table = source.blank() if foot is None else table_with_foot(sheet, foot)
    return source.numbers.told_table(table_over(source, word, table))


def numbered_table(value, sheet):
    """The number of a rising table; refuses a sheet with too many aboves, and then what is none."""
    number = rows_of(sheet).numbers.table_number(value)
    if number is None:
        raise InvalidTable(value)
    return number


def table_with_foot(sheet, foot):
    """The number of the table of no rows with this foot."""
    return rows_of(sheet).numbers.constant([foot[column] for column in sheet.reads("down")])


def table_over(source, word, table):
    """The number of the table of the rows of a word, above a table."""
    for kind in word[::-1]:
        table = source.table_above(kind, table)
    return table
