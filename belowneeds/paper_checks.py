"""The conditions for the lists and the standings of papers [63] [73]. Nothing is searched for here."""

from belowneeds.checks import is_integer, is_list
from belowneeds.sheet_checks import is_place
from belowneeds.steps import ways_to


class PaperCheck:
    """The list and the standings of a paper, of one sheet or of two, and whether they keep the conditions."""

    def __init__(self, plan, source, many_rows):
        """The out numbers that are asked for in the conditions for standings are greater than many_rows + 1.

        Those for the rows below are greater than many_rows. If it is None, only the out number None is.
        """
        self._plan = plan
        self._source = source
        self._many_rows = many_rows

    def holds(self, listed, standings, is_good):
        """Whether all conditions hold; is_good tells it of a row below a standing."""
        outs = self._outs_in(listed)
        if outs is None:
            return False
        found = self._standings_in(standings)
        if found is None or not self._has_blanks(outs):
            return False
        ways = self._ways_of(outs)
        return ways is not None and self._begins(outs, found) and self._goes_on(ways, found, is_good)

    def _outs_in(self, listed):
        """A dict from the tuples (place, number of a table) of the list to out numbers, or None."""
        if not is_list(listed):
            return None
        outs = {}
        for told in listed:
            if not isinstance(told, tuple) or len(told) != self._source.told_parts + 2:
                return None
            place, out = told[0], told[-1]
            if not is_place(place, len(self._plan)) or not _is_out(out):
                return None
            table = self._source.table_in(told[1:-1])
            if table is None or (place, table) in outs:
                return None
            outs[(place, table)] = out
        return outs

    def _standings_in(self, standings):
        """A dict whose keys are the tuples (place, number of an above, number of a table), or None."""
        if not is_list(standings):
            return None
        many = self._source.told_parts
        found = {}
        for told in standings:
            if not isinstance(told, tuple) or len(told) != 2 * many + 1 or not is_place(told[0], len(self._plan)):
                return None
            above = self._source.above_in(told[1:many + 1])
            table = self._source.table_in(told[many + 1:])
            if above is None or table is None:
                return None
            found[(told[0], above, table)] = True
        return found

    def _has_blanks(self, outs):
        blank = self._source.blank()
        return all([(place, blank) in outs for place in range(len(self._plan))])

    def _ways_of(self, outs):
        """For each place and table of the list, what it is above, or None if what is above is not as it must be."""
        ways = {at: [] for at in outs}
        leading = ways_to(self._plan)
        for (place, table), out in outs.items():
            for before, kind in leading[place]:
                over = (before, self._source.table_above(kind, table))
                if over not in outs or not _is_more(outs[over], out):
                    return None
                ways[over].append((kind, place, table, out))
        return ways

    def _begins(self, outs, found):
        """Whether the top stands above each table of place 0 that is asked for."""
        asked = [table for (place, table), out in outs.items() if place == 0 and self._is_asked(out, 1)]
        return all([(0, self._source.top_number, table) in found for table in asked])

    def _goes_on(self, ways, found, is_good):
        """Whether the rows below the standings are good, and lead to standings that are there."""
        for place, above, table in found:
            for kind, other, below, out in ways.get((place, table), []):
                if self._is_asked(out, 0):
                    row = self._source.under(above, kind, below)
                    if not is_good(row):
                        return False
                    if self._is_asked(out, 1) and (other, row.over, below) not in found:
                        return False
        return True

    def _is_asked(self, out, more):
        if out is None or self._many_rows is None:
            return out is None
        return out > self._many_rows + more


def _is_out(value):
    return value is None or (is_integer(value) and value >= 1)


def _is_more(more, out):
    """Whether an out number can be that of a table above one with this other out number."""
    if more is None or out is None:
        return more is None
    return more > out
