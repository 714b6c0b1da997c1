"""Which places and tables stand above others [43], by keys: one number for a place and a table, or a pair of tables.

The number of a pair of tables is that of the table of the one sheet, shifted by TABLE_BITS, plus that of the other
one. A key is the number of the table, or pair, shifted by PLACE_BITS, plus the place. There are never more tables and
places than that.
"""

TABLE_BITS = 30
PLACE_BITS = 2
TABLE_MASK = 2 ** 30 - 1
PLACE_MASK = 2 ** 2 - 1
# The key of a pair is that of the place and the table of the other sheet, with the table of the one ahead of it.
OTHER_BITS = 32
OTHER_MASK = 2 ** 32 - 1


def key_of(place, table):
    """The key of a place and a table, or a pair."""
    return table << PLACE_BITS | place


def ways_to(plan):
    """For each place of a plan, the list of the tuples (place, kind) such that the kind leads from there to it."""
    found = [[] for _ in plan]
    for place, leads in enumerate(plan):
        for kind, other in leads.items():
            found[other].append((place, kind))
    return found


class Steps:
    """What stands above the places and tables of a sheet."""

    def __init__(self, plan, source):
        """The source tells the rows of the kinds."""
        self._ways = [[(before, source.of_kind(kind)) for before, kind in ways] for ways in ways_to(plan)]
        self._made = {}

    def keys_above(self, key):
        """The list of the keys of what is above, one for each way to the place. It is made once."""
        above = self._made.get(key)
        if above is None:
            table = key >> PLACE_BITS
            above = [rows.lifted(table) << PLACE_BITS | before for before, rows in self._ways[key & PLACE_MASK]]
            self._made[key] = above
        return above

    def first_above(self, key, known):
        """The first key of what is above, in the sequence of the ways, that is not in this dict, or None."""
        table = key >> PLACE_BITS
        for before, rows in self._ways[key & PLACE_MASK]:
            over = rows.lifted(table) << PLACE_BITS | before
            if over not in known:
                return over
        return None


class JointSteps:
    """What stands above the places and pairs of tables of two sheets."""

    def __init__(self, one, other):
        """The steps of both sheets."""
        self._one = one
        self._other = other

    def keys_above(self, key):
        """The list of the keys of what is above, one for each way to the place."""
        place = key & PLACE_MASK
        firsts = self._one.keys_above(key_of(place, key >> OTHER_BITS))
        seconds = self._other.keys_above(key & OTHER_MASK)
        # Both have the place ahead of the way; it is taken from the second one.
        return [first >> PLACE_BITS << OTHER_BITS | second for first, second in zip(firsts, seconds)]


class Finder:
    """Finds all places and tables that stand above some, by their keys."""

    def __init__(self, steps, keys):
        """The steps, and the keys to begin with."""
        self._steps = steps
        # Those that were found, in sequence; so many of them were asked for what stands above them.
        self.all_keys = list(keys)
        self._done = 0
        self._known = {key: True for key in keys}

    def go_on(self, limit):
        """Finds what is not found yet; ends if there are more than the limit."""
        if self._done == 0:
            self._walk(limit)
        keys, known = self.all_keys, self._known
        keys_above = self._steps.keys_above
        while self._done < len(keys) and len(keys) <= limit:
            above = keys_above(keys[self._done])
            for key in above:
                if key not in known:
                    known[key] = True
                    keys.append(key)
            self._done += 1

    def _walk(self, limit):
        """Goes on from the last one as long as one above it is new: so it is soon seen if there are too many."""
        key = self.all_keys[-1]
        while key is not None and len(self.all_keys) <= limit:
            key = self._steps.first_above(key, self._known)
            if key is not None:
                self._known[key] = True
                self.all_keys.append(key)


class JointFinder:
    """Finds all places and pairs of tables that stand above some. Many pairs have a table in common."""

    def __init__(self, one, other, keys):
        """The steps of both sheets, and the keys to begin with."""
        self._one = one
        self._other = other
        self.all_keys = list(keys)
        self._done = 0
        # For each table of the one sheet a dict whose keys are what is known beside it: places and other tables.
        self._known = {}
        for key in keys:
            self._beside(key >> OTHER_BITS)[key & OTHER_MASK] = True
        # By places, and by tables of the one sheet: for each way such a dict, and a part of the key.
        self._firsts = {}
        # By places and tables of the other one: the dict of these for the place, and for each way the rest of the key.
        self._seconds = {}

    def go_on(self, limit):
        """Finds what is not found yet; ends if there are more than the limit."""
        keys = self.all_keys
        while self._done < len(keys) and len(keys) <= limit:
            key = keys[self._done]
            of_place, seconds = self._seconds.get(key & OTHER_MASK) or self._new_second(key & OTHER_MASK)
            firsts = of_place.get(key >> OTHER_BITS) or self._new_first(key & PLACE_MASK, key >> OTHER_BITS)
            for (known, first), second in zip(firsts, seconds):
                if second not in known:
                    known[second] = True
                    keys.append(first | second)
            self._done += 1

    def _beside(self, table):
        return self._known.setdefault(table, {})

    def _new_first(self, place, table):
        tables = [key >> PLACE_BITS for key in self._one.keys_above(key_of(place, table))]
        found = [(self._beside(over), over << OTHER_BITS) for over in tables]
        self._firsts[place][table] = found
        return found

    def _new_second(self, key):
        found = (self._firsts.setdefault(key & PLACE_MASK, {}), self._other.keys_above(key))
        self._seconds[key] = found
        return found
