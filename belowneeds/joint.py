"""Two sheets with the same plan, row by row [72]: what stands above, and the tables below, are pairs."""

from belowneeds.layering import Layers
from belowneeds.rows_under import rows_of, share_rows
from belowneeds.standing import Standings
from belowneeds.steps import OTHER_BITS, PLACE_BITS, PLACE_MASK, TABLE_BITS, TABLE_MASK, JointFinder, JointSteps

# So many joint layers of a sheet with other ones are kept.
MOST_KEPT = 4


class JointRow:
    """A row of each of the two sheets."""

    def __init__(self, one, other, over):
        self.one = one
        self.other = other
        self.over = over


class JointRows:
    """The rows of two sheets under their aboves. Pairs have numbers here, as tables have in RowsUnder."""

    def __init__(self, one, other):
        """What tells the rows of the one sheet, and of the other one."""
        self._one = one
        self._other = other
        self._rows = {}
        self.told_parts = 2
        self.top_number = self._above(one.top_number, other.top_number)

    def blank(self):
        """The pair of the tables of no rows."""
        return self._one.blank() << TABLE_BITS | self._other.blank()

    def told_above(self, above):
        """A tuple with both aboves."""
        first, second = divmod(above, self._other.many_aboves)
        return (*self._one.told_above(first), *self._other.told_above(second))

    def told_pairs(self, keys):
        """For each of these keys (see steps.py) the tuple of the place and both tables."""
        firsts = self._one.told_tables([key >> OTHER_BITS for key in keys])
        seconds = self._other.told_tables([key >> PLACE_BITS & TABLE_MASK for key in keys])
        return [
            (key & PLACE_MASK, firsts[key >> OTHER_BITS], seconds[key >> PLACE_BITS & TABLE_MASK]) for key in keys
        ]

    def ranks(self, keys):
        """For each of these keys a number; they rise as places and pairs are sorted."""
        seconds = self._other.table_ranks([key >> PLACE_BITS & TABLE_MASK for key in keys])
        ranks = self._one.table_ranks([key >> OTHER_BITS for key in keys])
        firsts = {table: rank * len(seconds) for table, rank in ranks.items()}
        many = len(firsts) * len(seconds)
        return [
            (key & PLACE_MASK) * many + firsts[key >> OTHER_BITS] + seconds[key >> PLACE_BITS & TABLE_MASK]
            for key in keys
        ]

    def above_in(self, parts):
        """The number of both aboves in this tuple, or None if one is none."""
        first, second = self._one.above_in(parts[:1]), self._other.above_in(parts[1:])
        return None if first is None or second is None else self._above(first, second)

    def table_in(self, parts):
        """The number of both rising tables in this tuple, or None if one is none."""
        first, second = self._one.table_in(parts[:1]), self._other.table_in(parts[1:])
        return None if first is None or second is None else first << TABLE_BITS | second

    def under(self, above, kind, table):
        """The rows under both aboves, of a kind, with a pair of tables below."""
        key = (above, kind, table)
        if key not in self._rows:
            first, second = divmod(above, self._other.many_aboves)
            one = self._one.under(first, kind, table >> TABLE_BITS)
            other = self._other.under(second, kind, table & TABLE_MASK)
            self._rows[key] = JointRow(one, other, self._above(one.over, other.over))
        return self._rows[key]

    def table_above(self, kind, table):
        """The pair of the tables above a pair, for a kind."""
        first = self._one.table_above(kind, table >> TABLE_BITS)
        return first << TABLE_BITS | self._other.table_above(kind, table & TABLE_MASK)

    def steps_up(self):
        """What stands above the places and pairs of the sheets."""
        return JointSteps(self._one.steps_up(), self._other.steps_up())

    def finder(self, keys):
        """What finds all places and pairs that stand above some."""
        return JointFinder(self._one.steps_up(), self._other.steps_up(), keys)

    def _above(self, first, second):
        return first * self._other.many_aboves + second


class Joint:
    """The joint layers of two sheets, and the standings made of pairs that are live."""

    def __init__(self, one, other):
        self.partner = other
        self.layers = Layers(one.plan(), JointRows(rows_of(one), rows_of(other)))
        self._standings = None

    def live_standings(self):
        """The standings; all pairs are found before."""
        if self._standings is None:
            self._standings = Standings(self.layers, True)
        return self._standings


def joint_of(one, other):
    """The joint layers of two sheets with the same plan, perhaps without any found yet; refuses too many entries.

    The last ones of a sheet are kept.
    """
    share_rows(one, other)
    kept = one.kept.setdefault("joints", [])
    for joint in kept:
        if joint.partner == other:
            return joint
    found = Joint(one, other)
    one.kept["joints"] = [found, *kept[:MOST_KEPT - 1]]
    return found
