"""Standings [44] of all layers, and the rows below them."""

from belowneeds.layering import layers_of
from belowneeds.steps import PLACE_BITS, PLACE_MASK


class Standings:
    """Standings, the nearest to row 1 first; each is a tuple (number of an above, key of a pair of layer 0).

    A below is a tuple (index of a standing, kind, key of a pair, row): a row of this kind below the standing, with the
    table of the pair below that.

    A table has a lesser out number than all tables above it. So the standings of layer d are those of layer 0 whose
    table layer d + 1 has: what leads to one of them is one of them.
    """

    def __init__(self, layers, only_live):
        """Those of layer 0, or only those of pairs that are live, and only live pairs below. None is found yet."""
        self._layers = layers
        self._outs = layers.outs()
        self._only_live = only_live
        self._found = []
        self._indexes = {}
        self._came_from = []
        self._nearest = []
        self._belows = []
        self._done = 0
        for key in layers.keys_of(0):
            self._add((layers.source().top_number, key), None, 1)

    def found(self):
        """The list of all standings."""
        self._find_all()
        return list(self._found)

    def belows(self):
        """The list of all rows below the standings, the nearest to row 1 first, for all tables of layer 0."""
        self._find_all()
        return list(self._belows)

    def first_below(self, is_wanted):
        """The first one of these rows that is wanted, or None."""
        done = 0
        while done < len(self._belows) or self._done < len(self._found):
            while done < len(self._belows):
                if is_wanted(self._belows[done]):
                    return self._belows[done]
                done += 1
            if self._done < len(self._found):
                self._find_below()
        return None

    def nearest(self, index):
        """The least row above which this standing can stand."""
        return self._nearest[index]

    def word_to(self, index):
        """The kinds of the rows ahead of that row, which lead to the standing."""
        kinds = []
        while self._came_from[index] is not None:
            index, kind = self._came_from[index]
            kinds.append(kind)
        return kinds[::-1]

    def told(self, standings):
        """For each standing a tuple of the place, the above or aboves, and the table or tables."""
        source = self._layers.source()
        pairs = self._layers.told([key for _, key in standings])
        return [(place, *source.told_above(above), *tables) for (above, _), (place, *tables) in zip(standings, pairs)]

    def sorted_told(self, many):
        """The list of the standings of this layer as tuples, sorted by place, above and table."""
        ranks = {key: rank for rank, key in enumerate(self._layers.sorted_keys())}
        found = []
        for above, key in self.found():
            if is_behind(self._outs.get(key), many + 1):
                found.append((key & PLACE_MASK, above, ranks[key], key))
        return self.told([(above, key) for _, above, _, key in sorted(found)])

    def _find_all(self):
        while self._done < len(self._found):
            self._find_below()

    def _find_below(self):
        """Finds what is below the first standing for which this was not done yet."""
        done = self._done
        source = self._layers.source()
        above, key = self._found[done]
        for kind, other in self._layers.ways()[key]:
            if not self._only_live or other not in self._outs:
                row = source.under(above, kind, other >> PLACE_BITS)
                self._belows.append((done, kind, other, row))
                self._add((row.over, other), (done, kind), self._nearest[done] + 1)
        self._done += 1

    def _add(self, standing, reached, line):
        if standing in self._indexes:
            return
        out = self._outs.get(standing[1])
        if out is None or (out != 1 and not self._only_live):
            self._indexes[standing] = len(self._found)
            self._found.append(standing)
            self._came_from.append(reached)
            self._nearest.append(line)


def standings_of(sheet, limit):
    """The standings of the layers of a sheet, which are found once; refuses more pairs than the limit."""
    layers = layers_of(sheet, limit)
    if "standings" not in sheet.kept:
        sheet.kept["standings"] = Standings(layers, False)
    return sheet.kept["standings"]


def is_behind(out, many):
    """Whether an out number is greater than this: None counts as greater than all integers."""
    return out is None or out > many


def live_chain(layers, key):
    """The lead and the turn of a fill of whose tables none shows more than those that lead from this live pair."""
    kinds = []
    positions = {}
    while key not in positions:
        positions[key] = len(kinds)
        kind, key = [way for way in layers.ways()[key] if layers.out_of(way[1]) is None][0]
        kinds.append(kind)
    begin = positions[key]
    return kinds[:begin], kinds[begin:]
