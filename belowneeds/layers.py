"""Layers of tables and standings [43] [44], told of a sheet."""

from belowneeds.checks import is_count
from belowneeds.errors import InvalidCount
from belowneeds.layering import layers_of
from belowneeds.sheet_checks import check_place
from belowneeds.standing import standings_of
from belowneeds.steps import key_of
from belowneeds.tables import numbered_table

MAX_TABLES = 400


def layer_tables(sheet, *, limit=MAX_TABLES):
    """The sorted list of the tuples (place, table, out) of layer 0."""
    check_count(limit)
    return layers_of(sheet, limit).listed()


def still_from(sheet, *, limit=MAX_TABLES):
    """The number of the first layer that is equal to the next one."""
    check_count(limit)
    return layers_of(sheet, limit).still()


def ways(sheet, place, table, *, limit=MAX_TABLES):
    """The sorted list of the tuples (kind, place, table) of layer 0 above which the passed table stands."""
    layers, key = _pair_of(sheet, place, table, limit)
    if key not in layers.overs():
        return []
    ranks = {other: rank for rank, other in enumerate(layers.sorted_keys())}
    found = sorted([(kind, ranks[other], other) for kind, other in layers.ways()[key]])
    told = layers.told([other for _, _, other in found])
    return [(kind, *pair) for (kind, _, _), pair in zip(found, told)]


def word_of(sheet, place, table, *, limit=MAX_TABLES):
    """The first of the shortest words that are allowed from the place and have this table, or None."""
    layers, key = _pair_of(sheet, place, table, limit)
    return first_word(layers, key) if key in layers.overs() else None


def standings(sheet, many, *, limit=MAX_TABLES):
    """The sorted list of the standings of this layer."""
    check_count(many)
    check_count(limit)
    return standings_of(sheet, limit).sorted_told(many)


def check_count(value):
    """Refuses what is no count."""
    if not is_count(value):
        raise InvalidCount(value)


def first_word(layers, key):
    """The first in sorted sequence of the shortest words of a pair."""
    word = []
    keys = [key]
    for length in range(layers.shortest(key), 0, -1):
        below = [way for at in keys for way in layers.ways()[at] if layers.shortest(way[1]) == length - 1]
        least = min([kind for kind, _ in below])
        word.append(least)
        keys = [other for kind, other in below if kind == least]
    return word


def _pair_of(sheet, place, table, limit):
    """The layers of the sheet, and the key of the pair, if all of this can be asked of them."""
    check_place(place, sheet)
    number = numbered_table(table, sheet)
    check_count(limit)
    return layers_of(sheet, limit), key_of(place, number)
