"""What row 1 shows above a word that is repeated [91], and above all words of some length, with a foot."""

from belowneeds.checks import is_between
from belowneeds.errors import InvalidCount, InvalidWord, NotTurning, TooMany
from belowneeds.fills import LAST_ROW
from belowneeds.layers import MAX_TABLES, check_count
from belowneeds.rows_under import rows_of
from belowneeds.sheet_checks import check_column, check_foot
from belowneeds.steps import ways_to
from belowneeds.tables import table_over, table_with_foot
from belowneeds.turning import normal_form, told_at

MOST_KINDS = 200


class Lengths:
    """What row 1 shows at a column in the cuts of a word that is repeated, with a foot."""

    def __init__(self, sheet, word, foot, column, *, limit=MAX_TABLES):
        behind = sheet.place_behind(word)
        if not word:
            raise InvalidWord(None)
        if behind != 0:
            raise NotTurning(behind)
        check_foot(foot, sheet)
        check_column(column, sheet)
        check_count(limit)
        source = rows_of(sheet)
        tables, back = _tables_met(source, word, table_with_foot(sheet, foot), limit)
        below = [table_over(source, word[1:], table) for table in tables]
        rows = [source.under(source.top_number, word[0], table) for table in below]
        told = tuple([source.row_told(row)[column] for row in rows])
        self._lead, self._turn = normal_form(told[:back], told[back:])

    @property
    def lead(self):
        """The tuple of what is shown ahead of the turn."""
        return self._lead

    @property
    def turn(self):
        """The tuple of what is shown again and again."""
        return self._turn

    def value_for(self, many):
        """The value, or None, for the word repeated so many times."""
        if not is_between(many, 1, LAST_ROW):
            raise InvalidCount(many)
        return told_at(self._lead, self._turn, many - 1)


def word_counts(sheet, foot, column, many, *, limit=MAX_TABLES):
    """A dict from None and all values to the number of words of so many kinds for which row 1 shows them."""
    check_foot(foot, sheet)
    check_column(column, sheet)
    if not is_between(many, 1, MOST_KINDS):
        raise InvalidCount(many)
    check_count(limit)
    source = rows_of(sheet)
    ways = _ways_above(sheet, table_with_foot(sheet, foot), limit)
    counts = {(place, table_with_foot(sheet, foot)): 1 for place in range(sheet.places)}
    for _ in range(many - 1):
        counts = _counts_above(ways, counts)
    found = {value: 0 for value in [None, *list(range(sheet.modulus))]}
    for kind, place in sheet.plan()[0].items():
        for (other, table), count in counts.items():
            if other == place:
                row = source.under(source.top_number, kind, table)
                found[source.row_told(row)[column]] += count
    return found


def _tables_met(source, word, table, limit):
    """The different tables of the word repeated 0, 1, 2 .. times, and the position to which they come back."""
    tables = []
    positions = {}
    while table not in positions:
        if len(tables) >= limit:
            raise TooMany("tables", limit)
        positions[table] = len(tables)
        tables.append(table)
        table = table_over(source, word, table)
    return tables, positions[table]


def _ways_above(sheet, table, limit):
    """For each tuple (place, table) of the tables of all words above this one, the tuples that are above it."""
    source = rows_of(sheet)
    leading = ways_to(sheet.plan())
    ways = {}
    waiting = [(place, table) for place in range(sheet.places)]
    while waiting:
        place, below = waiting.pop()
        if (place, below) not in ways:
            if len(ways) >= limit:
                raise TooMany("tables", limit)
            over = [(before, source.table_above(kind, below)) for before, kind in leading[place]]
            ways[(place, below)] = over
            waiting.extend(over)
    return ways


def _counts_above(ways, counts):
    """The numbers of words that are one kind longer, for each place and table."""
    found = {}
    for at, count in counts.items():
        for over in ways[at]:
            found[over] = found.get(over, 0) + count
    return found
