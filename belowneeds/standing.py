"""Standings [44] of all layers, and the rows below them."""


class Below:
    """A row below a standing, with a table below that."""

    def __init__(self, index, kind, number, row):
        self.index = index
        self.kind = kind
        self.number = number
        self.row = row


class Standings:
    """The standings of layer 0, the nearest to row 1 first; each is a tuple (above, number of a pair of layer 0).

    A table has a lesser out number than all tables above it. So the standings of layer d are those whose table
    layer d + 1 has: what leads to one of them is one of them.
    """

    def __init__(self, sheet, layers):
        self._layers = layers
        self._found = []
        self._indexes = {}
        self._came_from = []
        self._nearest = []
        self._belows = []
        top = sheet.top()
        over = tuple([top[column] for column in sheet.reads("up")])
        for number, (place, _) in enumerate(layers.pairs()):
            if place == 0:
                self._add((over, number), None, 1)
        self._find_all()

    def found(self):
        """The list of the standings."""
        return list(self._found)

    def belows(self):
        """The rows below the standings of layer 0, the nearest to row 1 first, for all tables of layer 0."""
        return list(self._belows)

    def nearest(self, index):
        """The least row above which this standing can stand."""
        return self._nearest[index]

    def word_to(self, index):
        """The kinds of the rows ahead of that row, which lead to the standing."""
        kinds = []
        while self._came_from[index] is not None:
            index, kind = self._came_from[index]
            kinds.append(kind)
        return kinds[::-1]

    def _find_all(self):
        done = 0
        while done < len(self._found):
            above, number = self._found[done]
            for kind, other in self._layers.ways(number):
                row = self._layers.row_under(above, kind, other)
                self._belows.append(Below(done, kind, other, row))
                self._add((row.over, other), (done, kind), self._nearest[done] + 1)
            done += 1

    def _add(self, standing, reached, line):
        _, number = standing
        if self._layers.out_of(number) != 1 and standing not in self._indexes:
            self._indexes[standing] = len(self._found)
            self._found.append(standing)
            self._came_from.append(reached)
            self._nearest.append(line)
