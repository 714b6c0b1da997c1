"""Layers of tables and standings [43] [44], told of a sheet."""

from belowneeds.aboves import in_order
from belowneeds.checks import is_count
from belowneeds.errors import InvalidCount
from belowneeds.layering import Layers
from belowneeds.sheet_checks import check_place
from belowneeds.standing import Standings
from belowneeds.tables import check_table

MAX_TABLES = 400


def layer_tables(sheet, *, limit=MAX_TABLES):
    """The sorted list of the tuples (place, table, out) of layer 0."""
    check_count(limit)
    layers = Layers(sheet, limit)
    pairs = layers.pairs()
    return [(*pairs[number], layers.out_of(number)) for number in _sorted_numbers(layers)]


def still_from(sheet, *, limit=MAX_TABLES):
    """The number of the first layer that is equal to the next one."""
    check_count(limit)
    return Layers(sheet, limit).still()


def ways(sheet, place, table, *, limit=MAX_TABLES):
    """The sorted list of the tuples (kind, place, table) of layer 0 above which the passed table stands."""
    layers = _layers_for(sheet, place, table, limit)
    number = layers.number_of(place, table)
    if number is None:
        return []
    pairs = layers.pairs()
    return sorted([(kind, *pairs[other]) for kind, other in layers.ways(number)], key=in_order)


def word_of(sheet, place, table, *, limit=MAX_TABLES):
    """The first of the shortest words that are allowed from the place and have this table, or None."""
    layers = _layers_for(sheet, place, table, limit)
    number = layers.number_of(place, table)
    return None if number is None else first_word(layers, number)


def standings(sheet, many, *, limit=MAX_TABLES):
    """The sorted list of the standings of this layer."""
    check_count(many)
    check_count(limit)
    layers = Layers(sheet, limit)
    ranks = {number: rank for rank, number in enumerate(_sorted_numbers(layers))}
    pairs = layers.pairs()
    told = {}
    for above, number in Standings(sheet, layers).found():
        if layers.out_of(number) is None or layers.out_of(number) > many + 1:
            place, table = pairs[number]
            told[(place, in_order(above), ranks[number])] = (place, above, table)
    return [told[key] for key in sorted(told)]


def check_count(value):
    """Refuses what is no count."""
    if not is_count(value):
        raise InvalidCount(value)


def first_word(layers, number):
    """The first in sorted sequence of the shortest words of a pair."""
    word = []
    numbers = [number]
    for length in range(layers.shortest(number), 0, -1):
        below = [way for at in numbers for way in layers.ways(at) if layers.shortest(way[1]) == length - 1]
        least = min([kind for kind, _ in below])
        word.append(least)
        numbers = [other for kind, other in below if kind == least]
    return word


def _layers_for(sheet, place, table, limit):
    """The layers of the sheet, if all of this can be asked of them."""
    check_place(place, sheet)
    check_table(table, sheet)
    check_count(limit)
    return Layers(sheet, limit)


def _sorted_numbers(layers):
    """The numbers of the pairs, sorted by place, then by table."""
    told = [(in_order(pair), number) for number, pair in enumerate(layers.pairs())]
    return [number for _, number in sorted(told)]
