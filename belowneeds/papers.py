"""Papers [63] [64]: certificates for full and for open columns."""

from belowneeds.checks import is_between, is_count, is_list
from belowneeds.courses import Course
from belowneeds.cuts import MAX_ROWS, Cut
from belowneeds.endless import Endless
from belowneeds.errors import TooMany
from belowneeds.fills import LAST_ROW, Fill, first_refused
from belowneeds.fullness import column_delay, first_open_row, late_word, open_fill
from belowneeds.layering import layers_of
from belowneeds.layers import MAX_TABLES, check_count
from belowneeds.paper_checks import PaperCheck
from belowneeds.rows_under import rows_of
from belowneeds.sheet_checks import check_column
from belowneeds.standing import standings_of

MAX_CELLS = 2000


def full_paper(sheet, column, *, limit=MAX_TABLES):
    """A full paper for the column and its delay, or None if it is open."""
    delay = column_delay(sheet, column, limit=limit)
    if delay is None:
        return None
    word, row = None, None
    if delay > 0:
        word, row = late_word(sheet, column, limit=limit)
        if len(word) > MAX_ROWS:
            raise TooMany("rows", MAX_ROWS)
    standings = standings_of(sheet, limit).sorted_told(delay)
    return (layers_of(sheet, limit).listed(), standings, word, row)


def open_paper(sheet, column, *, limit=MAX_TABLES):
    """An open paper for the column, or None if it is full."""
    row = first_open_row(sheet, column, limit=limit)
    if row is None:
        return None
    if row > MAX_ROWS:
        raise TooMany("rows", MAX_ROWS)
    fill = open_fill(sheet, column, limit=limit)
    cells, back, shift = Endless(sheet, fill).walk(row, column)
    if len(cells) > MAX_CELLS:
        raise TooMany("cells", MAX_CELLS)
    return (fill, cells, back, shift)


def is_full_paper(sheet, column, delay, value):
    """Whether this is a full paper for the column and the delay."""
    check_column(column, sheet)
    check_count(delay)
    source = rows_of(sheet)
    if not isinstance(value, tuple) or len(value) != 4:
        return False
    listed, standings, word, row = value
    if not _is_late(sheet, column, delay, word, row):
        return False
    number = sheet.columns.index(column)
    check = PaperCheck(sheet.plan(), source, delay)
    return check.holds(listed, standings, lambda below: below.cells[number] >= 0)


def is_open_paper(sheet, column, value):
    """Whether this is an open paper for the column."""
    check_column(column, sheet)
    # Refuses a sheet with too many aboves.
    rows_of(sheet)
    if not isinstance(value, tuple) or len(value) != 4:
        return False
    fill, cells, back, shift = value
    if not isinstance(fill, Fill) or not _are_cells(cells, sheet.columns) or cells[0][1] != column:
        return False
    if not is_between(back, 0, len(cells) - 1) or not is_count(shift) or first_refused(sheet, fill) is not None:
        return False
    course = Course(sheet, fill)
    return _is_walk(course, cells) and _comes_back(course, cells, back, shift)


def _is_late(sheet, column, delay, word, row):
    """Whether a word and a row show that the delay is not less."""
    if delay == 0:
        return word is None and row is None
    if not sheet.is_word(word) or len(word) > MAX_ROWS or not is_between(row, 1, len(word)):
        return False
    return len(word) - row >= delay - 1 and Cut(sheet, word).value_at(row, column) is None


def _are_cells(cells, columns):
    """Whether this is a list of at least one cell, and not too many."""
    if not is_list(cells) or not 1 <= len(cells) <= MAX_CELLS:
        return False
    return all([_is_cell(cell, columns) for cell in cells])


def _is_cell(cell, columns):
    if not isinstance(cell, tuple) or len(cell) != 2 or not is_between(cell[0], 1, LAST_ROW):
        return False
    return isinstance(cell[1], str) and cell[1] in columns


def _is_walk(course, cells):
    """Whether each cell is the next of the one ahead of it. A cell with a value has no next."""
    return all([course.next_of(cell) == other for cell, other in zip(cells[:-1], cells[1:])])


def _comes_back(course, cells, back, shift):
    """Whether the next of the last cell is the cell at this position, or that moved down by so many rows."""
    row, column = cells[back]
    if course.next_of(cells[-1]) != (row + shift, column):
        return False
    if shift == 0:
        return True
    return shift % course.period_rows == 0 and min([line for line, _ in cells[back:]]) >= course.begin_row
