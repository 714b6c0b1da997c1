"""Full and open columns [61], their delays, and first open rows [62]."""

from belowneeds.fills import Fill
from belowneeds.layering import Layers
from belowneeds.layers import MAX_TABLES, check_count
from belowneeds.sheet_checks import check_column
from belowneeds.standing import Standings


def is_full(sheet, column, *, limit=MAX_TABLES):
    """Whether all cells of the column have values, in the sheets of all allowed fills."""
    return column_delay(sheet, column, limit=limit) is not None


def column_delay(sheet, column, *, limit=MAX_TABLES):
    """The delay of a column, or None if it is open."""
    check_column(column, sheet)
    return delays(sheet, limit=limit)[column]


def delays(sheet, *, limit=MAX_TABLES):
    """A dict from all columns, in sequence, to their delays, or None for an open one."""
    check_count(limit)
    layers = Layers(sheet, limit)
    return delays_of(sheet, layers, Standings(sheet, layers))


def sheet_delay(sheet, *, limit=MAX_TABLES):
    """The delay of a full sheet, or None."""
    found = list(delays(sheet, limit=limit).values())
    return None if None in found else max(found)


def late_word(sheet, column, *, limit=MAX_TABLES):
    """A tuple (word, row) that shows that the delay is not less, as at the end of a full paper [63], or None."""
    layers, standings = _asked_of(sheet, column, limit)
    delay = delays_of(sheet, layers, standings)[column]
    if delay is None or delay == 0:
        return None
    below = first_below(standings, layers, column, delay)
    word = [*standings.word_to(below.index), below.kind, *_longest_word(layers, below.number)]
    return (word, standings.nearest(below.index))


def first_open_row(sheet, column, *, limit=MAX_TABLES):
    """The least row in which the cell has none in the sheet of some allowed fill; None for a full column."""
    layers, standings = _asked_of(sheet, column, limit)
    below = first_below(standings, layers, column, None)
    return None if below is None else standings.nearest(below.index)


def open_fill(sheet, column, *, limit=MAX_TABLES):
    """A fill in whose sheet the cell in the first open row has none; None for a full column."""
    layers, standings = _asked_of(sheet, column, limit)
    below = first_below(standings, layers, column, None)
    if below is None:
        return None
    lead, turn = live_chain(layers, below.number)
    return Fill([*standings.word_to(below.index), below.kind, *lead], turn)


def delays_of(sheet, layers, standings):
    """A dict from all columns to their delays, or None."""
    # A cell without a value above a table with the out number d needs d rows below; above a live table it may
    # never have one.
    found = {column: 0 for column in sheet.columns}
    for below in standings.belows():
        out = layers.out_of(below.number)
        for column in below.row.empty:
            if out is None or found[column] is None:
                found[column] = None
            else:
                found[column] = max(found[column], out)
    return found


def first_below(standings, layers, column, out):
    """The nearest row to row 1 in which the cell has none above a table with this out number, or None."""
    for below in standings.belows():
        if layers.out_of(below.number) == out and column in below.row.empty:
            return below
    return None


def live_chain(layers, number):
    """The lead and the turn of a fill of whose tables none shows more than those that lead from this live pair."""
    kinds = []
    positions = {}
    while number not in positions:
        positions[number] = len(kinds)
        kind, number = [way for way in layers.ways(number) if layers.out_of(way[1]) is None][0]
        kinds.append(kind)
    begin = positions[number]
    return kinds[:begin], kinds[begin:]


def _asked_of(sheet, column, limit):
    """The layers and the standings of a sheet, if this column can be asked for."""
    check_column(column, sheet)
    check_count(limit)
    layers = Layers(sheet, limit)
    return layers, Standings(sheet, layers)


def _longest_word(layers, number):
    """A word of a pair, as long as its out number lets it be."""
    kinds = []
    while layers.ways(number):
        out = layers.out_of(number)
        kind, number = [way for way in layers.ways(number) if layers.out_of(way[1]) == out - 1][0]
        kinds.append(kind)
    return kinds
