"""Standings [44] of all layers, and the rows below them."""

from belowneeds.layering import layers_of


class Below:
    """A row below a standing, with a table below that."""

    def __init__(self, index, kind, number, row):
        """The index of the standing, the kind of the row, and the number of the pair below."""
        self.index = index
        self.kind = kind
        self.number = number
        self.row = row


class Standings:
    """Standings, the nearest to row 1 first; each is a tuple (number of an above, number of a pair of layer 0).

    A table has a lesser out number than all tables above it. So the standings of layer d are those of layer 0 whose
    table layer d + 1 has: what leads to one of them is one of them.
    """

    def __init__(self, layers, only_live):
        """Those of layer 0, or only those of pairs that are live, and only live pairs below. None is found yet."""
        self._layers = layers
        self._only_live = only_live
        self._found = []
        self._indexes = {}
        self._came_from = []
        self._nearest = []
        self._belows = []
        self._done = 0
        for number in range(layers.many_pairs()):
            if layers.pair(number)[0] == 0:
                self._add((layers.source().top_number, number), None, 1)

    def found(self):
        """The list of all standings."""
        self._find_all()
        return list(self._found)

    def belows(self):
        """The list of all rows below the standings, the nearest to row 1 first, for all tables of layer 0."""
        self._find_all()
        return list(self._belows)

    def first_below(self, is_wanted):
        """The first one of these rows that is wanted, or None."""
        done = 0
        while done < len(self._belows) or self._done < len(self._found):
            while done < len(self._belows):
                if is_wanted(self._belows[done]):
                    return self._belows[done]
                done += 1
            if self._done < len(self._found):
                self._find_below()
        return None

    def nearest(self, index):
        """The least row above which this standing can stand."""
        return self._nearest[index]

    def word_to(self, index):
        """The kinds of the rows ahead of that row, which lead to the standing."""
        kinds = []
        while self._came_from[index] is not None:
            index, kind = self._came_from[index]
            kinds.append(kind)
        return kinds[::-1]

    def told(self, standing):
        """A tuple of the place, the above or aboves, and the table or tables."""
        above, number = standing
        place, *tables = self._layers.told(number)
        return (place, *self._layers.source().told_above(above), *tables)

    def sorted_told(self, many):
        """The list of the standings of this layer as tuples, sorted by place, above and table."""
        layers = self._layers
        ranks = {number: rank for rank, number in enumerate(layers.sorted_numbers())}
        keys = []
        for index, (above, number) in enumerate(self.found()):
            if is_behind(layers.out_of(number), many + 1):
                keys.append((layers.pair(number)[0], above, ranks[number], index))
        return [self.told(self._found[index]) for _, _, _, index in sorted(keys)]

    def _find_all(self):
        while self._done < len(self._found):
            self._find_below()

    def _find_below(self):
        """Finds what is below the first standing for which this was not done yet."""
        layers = self._layers
        done = self._done
        above, number = self._found[done]
        for kind, other in layers.ways(number):
            if layers.out_of(other) is None or not self._only_live:
                row = layers.source().under(above, kind, layers.pair(other)[1])
                self._belows.append(Below(done, kind, other, row))
                self._add((row.over, other), (done, kind), self._nearest[done] + 1)
        self._done += 1

    def _add(self, standing, reached, line):
        _, number = standing
        out = self._layers.out_of(number)
        kept = out is None if self._only_live else out != 1
        if kept and standing not in self._indexes:
            self._indexes[standing] = len(self._found)
            self._found.append(standing)
            self._came_from.append(reached)
            self._nearest.append(line)


def standings_of(sheet, limit):
    """The standings of the layers of a sheet, which are found once; refuses more pairs than the limit."""
    layers = layers_of(sheet, limit)
    if "standings" not in sheet.kept:
        sheet.kept["standings"] = Standings(layers, False)
    return sheet.kept["standings"]


def is_behind(out, many):
    """Whether an out number is greater than this: None counts as greater than all integers."""
    return out is None or out > many


def live_chain(layers, number):
    """The lead and the turn of a fill of whose tables none shows more than those that lead from this live pair."""
    kinds = []
    positions = {}
    while number not in positions:
        positions[number] = len(kinds)
        kind, number = [way for way in layers.ways(number) if layers.out_of(way[1]) is None][0]
        kinds.append(kind)
    begin = positions[number]
    return kinds[:begin], kinds[begin:]
