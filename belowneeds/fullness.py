"""Full and open columns [61], their delays, and first open rows [62]."""

from belowneeds.fills import Fill
from belowneeds.layering import layers_of
from belowneeds.layers import MAX_TABLES, check_count
from belowneeds.sheet_checks import check_column
from belowneeds.standing import live_chain, standings_of


def is_full(sheet, column, *, limit=MAX_TABLES):
    """Whether all cells of the column have values, in the sheets of all allowed fills."""
    return column_delay(sheet, column, limit=limit) is not None


def column_delay(sheet, column, *, limit=MAX_TABLES):
    """The delay of a column, or None if it is open."""
    check_column(column, sheet)
    return _kept_delays(sheet, limit)[column]


def delays(sheet, *, limit=MAX_TABLES):
    """A dict from all columns, in sequence, to their delays, or None for an open one."""
    return dict(_kept_delays(sheet, limit))


def sheet_delay(sheet, *, limit=MAX_TABLES):
    """The delay of a full sheet, or None."""
    found = list(delays(sheet, limit=limit).values())
    return None if None in found else max(found)


def late_word(sheet, column, *, limit=MAX_TABLES):
    """A tuple (word, row) that shows that the delay is not less, as at the end of a full paper [63], or None.

    No other such word is shorter: in each of them just as many rows are below the row, and it is the nearest one.
    """
    delay = column_delay(sheet, column, limit=limit)
    if delay is None or delay == 0:
        return None
    layers, standings = layers_of(sheet, limit), standings_of(sheet, limit)
    index, kind, key, _ = _first_empty(sheet, column, limit, delay)
    word = [*standings.word_to(index), kind, *_longest_word(layers, key)]
    return (word, standings.nearest(index))


def first_open_row(sheet, column, *, limit=MAX_TABLES):
    """The least row in which the cell has none in the sheet of some allowed fill; None for a full column."""
    if column_delay(sheet, column, limit=limit) is not None:
        return None
    below = _first_empty(sheet, column, limit, None)
    return standings_of(sheet, limit).nearest(below[0])


def open_fill(sheet, column, *, limit=MAX_TABLES):
    """A fill in whose sheet the cell in the first open row has none; None for a full column."""
    if column_delay(sheet, column, limit=limit) is not None:
        return None
    return fill_through(layers_of(sheet, limit), standings_of(sheet, limit), _first_empty(sheet, column, limit, None))


def fill_through(layers, standings, below):
    """A fill whose rows lead to this one, as near to row 1 as can be, and to its table below, or to less than that."""
    index, kind, key, _ = below
    lead, turn = live_chain(layers, key)
    return Fill([*standings.word_to(index), kind, *lead], turn)


def first_open_column(sheet, limit):
    """The first column, in sequence, that is open, or None."""
    for column, delay in _kept_delays(sheet, limit).items():
        if delay is None:
            return column
    return None


def _kept_delays(sheet, limit):
    """The delays, which are worked out once."""
    check_count(limit)
    layers = layers_of(sheet, limit)
    if "delays" not in sheet.kept:
        sheet.kept["delays"] = _delays_of(sheet, layers, standings_of(sheet, limit))
    return sheet.kept["delays"]


def _delays_of(sheet, layers, standings):
    """A dict from all columns to their delays, or None."""
    # A cell without a value above a table with the out number d needs d rows below; above a live table it may
    # never have one.
    outs = layers.outs()
    found = [0 for _ in sheet.columns]
    for _, _, key, row in standings.belows():
        for missing in row.missing:
            out = outs.get(key)
            if out is None or found[missing] is None:
                found[missing] = None
            else:
                found[missing] = max(found[missing], out)
    return dict(zip(sheet.columns, found))


def _first_empty(sheet, column, limit, out):
    """The nearest row to row 1 in which the cell has none above a table with this out number."""
    layers = layers_of(sheet, limit)
    number = sheet.columns.index(column)
    return standings_of(sheet, limit).first_below(
        lambda below: number in below[3].missing and layers.out_of(below[2]) == out
    )


def _longest_word(layers, key):
    """A word of a pair, as long as its out number lets it be."""
    kinds = []
    ways = layers.ways()
    while ways[key]:
        out = layers.out_of(key)
        kind, key = [way for way in ways[key] if layers.out_of(way[1]) == out - 1][0]
        kinds.append(kind)
    return kinds
