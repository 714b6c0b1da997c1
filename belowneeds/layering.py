"""Layers [43]: the tables of words, place by place, and how long they can stay."""

from belowneeds.errors import TooMany
from belowneeds.rows_under import rows_of
from belowneeds.steps import PLACE_MASK, key_of, ways_to


class Layers:
    """The pairs (place, table) of layer 0, by keys (see steps.py), and which of them stand above which."""

    def __init__(self, plan, source):
        """The source tells which tables stand above which. Nothing but the blank tables is found yet."""
        self._plan = plan
        self._source = source
        self._steps = source.steps_up()
        blank = source.blank()
        self._blanks = [key_of(place, blank) for place in range(len(plan))]
        self._finder = source.finder(self._blanks)
        # These are made when all pairs are found, and asked for.
        self._overs = None
        self._outs = None
        self._lengths = None
        self._ways = None
        self._ordered = None
        self._listed = None

    def find_all(self, what, limit):
        """Finds all pairs; refuses more of them than the limit."""
        # What is found does not hang on the limit, so that it can be gone on with from here.
        self._finder.go_on(limit)
        if len(self._finder.all_keys) > limit:
            raise TooMany(what, limit)

    def source(self):
        """What tells which tables stand above which."""
        return self._source

    def keys_of(self, place):
        """The list of the keys of the pairs of a place."""
        return [key for key in self._finder.all_keys if key & PLACE_MASK == place]

    def overs(self):
        """A dict from the keys to the lists of the keys of what is above them, one for each way to the place."""
        if self._overs is None:
            self._overs = {key: self._steps.keys_above(key) for key in self._finder.all_keys}
        return self._overs

    def outs(self):
        """A dict from the keys of the pairs that are not live to their out numbers."""
        if self._outs is None:
            # The less a table below shows, the less the one above it does. So a blank table that is above any table
            # is above the blank one of its place.
            above = [key for blank in self._blanks for key in self._steps.keys_above(blank)]
            ended = [blank for blank in self._blanks if blank not in above]
            self._outs = outs_of(ended, self.overs()) if ended else {}
        return self._outs

    def out_of(self, key):
        """The out number of a pair, or None if it is live."""
        return self.outs().get(key)

    def shortest(self, key):
        """The number of kinds of the shortest words of a pair."""
        if self._lengths is None:
            self._lengths = lengths_of(self._blanks, self.overs())
        return self._lengths[key]

    def ways(self):
        """A dict from the keys to the lists of the tuples (kind, key of a pair) of which they are above."""
        if self._ways is None:
            found = {key: [] for key in self._finder.all_keys}
            leading = ways_to(self._plan)
            for below, above in self.overs().items():
                for (_, kind), key in zip(leading[below & PLACE_MASK], above):
                    found[key].append((kind, below))
            self._ways = found
        return self._ways

    def still(self):
        """The number of the first layer that is equal to the next one."""
        return max(self.outs().values(), default=0)

    def told(self, keys):
        """For each key the tuple of the place, the table and, if there are two sheets, the table of the other one."""
        return self._source.told_pairs(keys)

    def listed(self):
        """The sorted list of the tuples of what is told of a pair, and its out number."""
        if self._listed is None:
            keys, outs = self.sorted_keys(), self.outs()
            self._listed = [(*told, outs.get(key)) for told, key in zip(self.told(keys), keys)]
        return list(self._listed)

    def sorted_keys(self):
        """The list of the keys, sorted by place, then by table."""
        if self._ordered is None:
            keys = self._finder.all_keys
            by_rank = dict(zip(self._source.ranks(keys), keys))
            self._ordered = [by_rank[rank] for rank in sorted(by_rank)]
        return list(self._ordered)


def layers_of(sheet, limit):
    """The layers of a sheet, which are found once; refuses more pairs than the limit."""
    source = rows_of(sheet)
    if "layers" not in sheet.kept:
        sheet.kept["layers"] = Layers(sheet.plan(), source)
    layers = sheet.kept["layers"]
    layers.find_all("tables", limit)
    return layers


def outs_of(ended, overs):
    """A dict to the out numbers [43] of the pairs that have some; those that are above nothing have ended."""
    left = {key: 0 for key in overs}
    for above in overs.values():
        for key in above:
            left[key] += 1
    outs = {}
    out = 1
    while ended:
        found = []
        for key in ended:
            outs[key] = out
            for over in overs[key]:
                left[over] -= 1
                if left[over] == 0:
                    found.append(over)
        ended = found
        out += 1
    return outs


def lengths_of(blanks, overs):
    """A dict from all keys to the numbers of kinds of the shortest words of their pairs."""
    lengths = {blank: 0 for blank in blanks}
    last = blanks
    while last:
        found = []
        for key in last:
            for over in overs[key]:
                if over not in lengths:
                    lengths[over] = lengths[key] + 1
                    found.append(over)
        last = found
    return lengths
