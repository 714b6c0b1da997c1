"""Two sheets with the same plan, row by row [72]: what stands above, and the tables below, are pairs."""

from belowneeds.layering import Layers
from belowneeds.rows_under import rows_of
from belowneeds.standing import Standings


class JointRow:
    """A row of each of the two sheets."""

    def __init__(self, one, other, over):
        self.one = one
        self.other = other
        self.over = over


class JointRows:
    """The rows of two sheets under their aboves. Pairs have numbers here, as tables have in RowsUnder."""

    def __init__(self, one, other):
        """What tells the rows of the one sheet, and of the other one."""
        self._one = one
        self._other = other
        self._pairs = []
        self._pair_numbers = {}
        self._rows = {}
        self.told_parts = 2
        self.top_number = self._above(one.top_number, other.top_number)

    def blank(self):
        """The pair of the tables of no rows."""
        return self._numbered((self._one.blank(), self._other.blank()))

    def told_above(self, above):
        """A tuple with both aboves."""
        many = self._other.many_aboves
        return (*self._one.told_above(above // many), *self._other.told_above(above % many))

    def told_table(self, table):
        """A tuple with both tables."""
        first, second = self._pairs[table]
        return (*self._one.told_table(first), *self._other.told_table(second))

    def in_order(self, table):
        """A key to sort pairs by."""
        first, second = self._pairs[table]
        return (self._one.in_order(first), self._other.in_order(second))

    def above_in(self, parts):
        """The number of both aboves in this tuple, or None if one is none."""
        first, second = self._one.above_number(parts[0]), self._other.above_number(parts[1])
        return None if first is None or second is None else self._above(first, second)

    def table_in(self, parts):
        """The number of both rising tables in this tuple, or None if one is none."""
        first, second = self._one.table_number(parts[0]), self._other.table_number(parts[1])
        return None if first is None or second is None else self._numbered((first, second))

    def under(self, above, kind, table):
        """The rows under both aboves, of a kind, with a pair of tables below."""
        key = (above, kind, table)
        if key not in self._rows:
            first, second = self._pairs[table]
            one = self._one.under(above // self._other.many_aboves, kind, first)
            other = self._other.under(above % self._other.many_aboves, kind, second)
            self._rows[key] = JointRow(one, other, self._above(one.over, other.over))
        return self._rows[key]

    def table_above(self, kind, table):
        """The pair of the tables above a pair, for a kind."""
        first, second = self._pairs[table]
        return self._numbered((self._one.table_above(kind, first), self._other.table_above(kind, second)))

    def _above(self, first, second):
        return first * self._other.many_aboves + second

    def _numbered(self, pair):
        if pair not in self._pair_numbers:
            self._pair_numbers[pair] = len(self._pairs)
            self._pairs.append(pair)
        return self._pair_numbers[pair]


class Joint:
    """The joint layers of two sheets, and the standings made of pairs that are live."""

    def __init__(self, one, other):
        self.partner = other
        self.layers = Layers(one.plan(), JointRows(rows_of(one), rows_of(other)))
        self._standings = None

    def live_standings(self):
        """The standings; all pairs are found before."""
        if self._standings is None:
            self._standings = Standings(self.layers, True)
        return self._standings


def joint_of(one, other):
    """The joint layers of two sheets with the same plan, without any found yet; the last ones of a sheet are kept."""
    if "joint" not in one.kept or one.kept["joint"].partner != other:
        one.kept["joint"] = Joint(one, other)
    return one.kept["joint"]


def joint_found(one, other, pairs):
    """The joint layers of two sheets with the same plan; refuses more pairs than that."""
    found = joint_of(one, other)
    found.layers.find_all("pairs", pairs)
    return found
