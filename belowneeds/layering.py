"""Layers [43]: the tables of words, place by place, and how long they can stay."""

from belowneeds.errors import TooMany
from belowneeds.rows_under import RowsUnder


class Layers:
    """The pairs (place, table) of layer 0, by numbers, and which of them stand above which."""

    def __init__(self, sheet, limit):
        """Refuses a sheet with more pairs than the limit."""
        self._rows = RowsUnder(sheet)
        self._limit = limit
        self._pairs = []
        self._numbers = {}
        self._shortest = []
        self._ways = []
        for place in range(sheet.places):
            self._numbered((place, self._rows.blank()), 0)
        self._find_all(ways_to(sheet.plan()))
        self._outs = outs_of(self._ways)

    def pairs(self):
        """The list of the tuples (place, table)."""
        return list(self._pairs)

    def number_of(self, place, table):
        """The number of a pair, or None if layer 0 has it not."""
        return self._numbers.get((place, table))

    def out_of(self, number):
        """The out number of a pair, or None if it is live."""
        return self._outs[number]

    def shortest(self, number):
        """The number of kinds of the shortest words of a pair."""
        return self._shortest[number]

    def ways(self, number):
        """The tuples (kind, number of a pair) of which the pair is above."""
        return list(self._ways[number])

    def still(self):
        """The number of the first layer that is equal to the next one."""
        return max([out for out in self._outs if out is not None], default=0)

    def row_under(self, above, kind, number):
        """The row under an above, of a kind, with the table of a pair below."""
        _, table = self._pairs[number]
        return self._rows.under(above, kind, table)

    def _find_all(self, ways):
        """Finds the pairs in the sequence of the lengths of their shortest words."""
        done = 0
        while done < len(self._pairs):
            place, table = self._pairs[done]
            for before, kind in ways[place]:
                pair = (before, self._rows.table_above(kind, table))
                number = self._numbered(pair, self._shortest[done] + 1)
                self._ways[number].append((kind, done))
            done += 1

    def _numbered(self, pair, length):
        if pair not in self._numbers:
            if len(self._pairs) >= self._limit:
                raise TooMany("tables", self._limit)
            self._numbers[pair] = len(self._pairs)
            self._pairs.append(pair)
            self._shortest.append(length)
            self._ways.append([])
        return self._numbers[pair]


def ways_to(plan):
    """For each place of a plan, the list of the tuples (place, kind) such that the kind leads from there to it."""
    found = [[] for _ in plan]
    for place, leads in enumerate(plan):
        for kind, other in leads.items():
            found[other].append((place, kind))
    return found


def outs_of(ways):
    """The out numbers [43] of what has these ways, tuples (kind, number), to what it is above."""
    over = [[] for _ in ways]
    for number, others in enumerate(ways):
        for _, other in others:
            over[other].append(number)
    left = [len(others) for others in ways]
    outs = [None for _ in ways]
    ended = [number for number, many in enumerate(left) if many == 0]
    out = 1
    while ended:
        found = []
        for number in ended:
            outs[number] = out
            for other in over[number]:
                left[other] -= 1
                if left[other] == 0:
                    found.append(other)
        ended = found
        out += 1
    return outs
