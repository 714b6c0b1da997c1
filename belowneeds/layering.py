"""Layers [43]: the tables of words, place by place, and how long they can stay."""

from belowneeds.errors import TooMany
from belowneeds.rows_under import rows_of


class Layers:
    """The pairs (place, table) of layer 0, by numbers, and which of them stand above which."""

    def __init__(self, plan, source):
        """The source tells which tables stand above which. Nothing but the blank tables is found yet."""
        self._many_places = len(plan)
        self._source = source
        self._ways_to = ways_to(plan)
        self._pairs = []
        self._numbers = {}
        self._shortest = []
        self._ways = []
        # So many pairs were asked for what stands above them.
        self._done = 0
        self._outs = None
        for place in range(self._many_places):
            self._add(place, source.blank(), 0)

    def find_all(self, what, limit):
        """Finds all pairs; refuses more of them than the limit."""
        # What is found does not hang on the limit, so that it can be gone on with from here.
        while self._done < len(self._pairs) and len(self._pairs) <= limit:
            self._find_above(self._done)
            self._done += 1
        if len(self._pairs) > limit:
            raise TooMany(what, limit)
        if self._outs is None:
            self._outs = outs_of(self._ways)

    def source(self):
        """What tells which tables stand above which."""
        return self._source

    def many_pairs(self):
        """The number of pairs."""
        return len(self._pairs)

    def pair(self, number):
        """The tuple (place, number of a table)."""
        return self._pairs[number]

    def number_of(self, place, table):
        """The number of a pair, or None if layer 0 has it not."""
        return self._numbers.get(table * self._many_places + place)

    def out_of(self, number):
        """The out number of a pair, or None if it is live."""
        return self._outs[number]

    def shortest(self, number):
        """The number of kinds of the shortest words of a pair."""
        return self._shortest[number]

    def ways(self, number):
        """The tuples (kind, number of a pair) of which the pair is above."""
        return list(self._ways[number])

    def still(self):
        """The number of the first layer that is equal to the next one."""
        return max([out for out in self._outs if out is not None], default=0)

    def told(self, number):
        """A tuple of the place, the table and, if there are two sheets, the table of the other one."""
        place, table = self._pairs[number]
        return (place, *self._source.told_table(table))

    def sorted_numbers(self):
        """The numbers of the pairs, sorted by place, then by table."""
        keys = [(place, self._source.in_order(table)) for place, table in self._pairs]
        return [number for _, number in sorted([(key, number) for number, key in enumerate(keys)])]

    def _find_above(self, done):
        """Finds the pairs above one; the shortest words of what is found first are the shortest ones."""
        place, table = self._pairs[done]
        length = self._shortest[done] + 1
        for before, kind in self._ways_to[place]:
            over = self._source.table_above(kind, table)
            number = self._numbers.get(over * self._many_places + before)
            if number is None:
                number = self._add(before, over, length)
            self._ways[number].append((kind, done))

    def _add(self, place, table, length):
        number = len(self._pairs)
        self._numbers[table * self._many_places + place] = number
        self._pairs.append((place, table))
        self._shortest.append(length)
        self._ways.append([])
        return number


def layers_of(sheet, limit):
    """The layers of a sheet, which are found once; refuses more pairs than the limit."""
    source = rows_of(sheet)
    if "layers" not in sheet.kept:
        sheet.kept["layers"] = Layers(sheet.plan(), source)
    layers = sheet.kept["layers"]
    layers.find_all("tables", limit)
    return layers


def ways_to(plan):
    """For each place of a plan, the list of the tuples (place, kind) such that the kind leads from there to it."""
    found = [[] for _ in plan]
    for place, leads in enumerate(plan):
        for kind, other in leads.items():
            found[other].append((place, kind))
    return found


def outs_of(ways):
    """The out numbers [43] of what has these ways, tuples (kind, number), to what it is above."""
    over = [[] for _ in ways]
    for number, others in enumerate(ways):
        for _, other in others:
            over[other].append(number)
    left = [len(others) for others in ways]
    outs = [None for _ in ways]
    ended = [number for number, many in enumerate(left) if many == 0]
    out = 1
    while ended:
        found = []
        for number in ended:
            outs[number] = out
            for other in over[number]:
                left[other] -= 1
                if left[other] == 0:
                    found.append(other)
        ended = found
        out += 1
    return outs
