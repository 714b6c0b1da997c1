"""Machines [82], which read kinds and write the rows of a full sheet."""

from belowneeds.checks import is_count, is_list, is_name
from belowneeds.errors import InvalidStates, InvalidWord, NotFull, TooMany
from belowneeds.fullness import first_open_column, sheet_delay
from belowneeds.layers import MAX_TABLES, check_count
from belowneeds.reducing import least_states
from belowneeds.rows_under import rows_of
from belowneeds.sheet_checks import is_place
from belowneeds.tables import table_over

MAX_DELAY = 3


class Machine:
    """A delay, and states, each with a dict from kinds to the next state and what is written."""

    def __init__(self, delay, states):
        check_count(delay)
        _check_states(states)
        self._delay = delay
        self._states = [{kind: state[kind] for kind in sorted(state)} for state in states]

    @property
    def delay(self):
        """The delay."""
        return self._delay

    @property
    def states(self):
        """The tuple of the states."""
        return tuple([dict(state) for state in self._states])

    def run(self, word):
        """The list of what is written at each kind, None among it."""
        if not is_list(word):
            raise InvalidWord(None)
        written = []
        state = 0
        for position, kind in enumerate(word):
            if not isinstance(kind, str) or kind not in self._states[state]:
                raise InvalidWord(position)
            state, row = self._states[state][kind]
            written.append(row)
        return written

    def reduced(self):
        """The least machine that reads and answers the same words."""
        return Machine(self._delay, least_states(self._states))

    def __len__(self):
        return len(self._states)

    def __eq__(self, other):
        return isinstance(other, Machine) and self._delay == other._delay and self._states == other._states


def machine_of(sheet, *, limit=MAX_TABLES):
    """The least machine of a full sheet."""
    column = first_open_column(sheet, limit)
    if column is not None:
        raise NotFull(column)
    delay = sheet_delay(sheet, limit=limit)
    if delay > MAX_DELAY:
        raise TooMany("delay", MAX_DELAY)
    return Machine(delay, least_states(Held(sheet, delay).machine_states()))


def from_machine(machine, word):
    """The list of the rows that are written for a word."""
    return [row for row in machine.run(word) if row is not None]


class Held:
    """What has to be held of the kinds that were read: the place, the row above, and the kinds not written yet."""

    def __init__(self, sheet, delay):
        self._source = rows_of(sheet)
        self._plan = sheet.plan()
        self._delay = delay
        self._helds = []
        self._numbers = {}

    def machine_states(self):
        """The states of a machine of the sheet, which is not the least one yet."""
        self._numbered((0, self._source.top_number, ()))
        found = []
        while len(found) < len(self._helds):
            place, above, kinds = self._helds[len(found)]
            told = {}
            for kind, other in self._plan[place].items():
                over, left, row = self._behind(above, (*kinds, kind))
                told[kind] = (self._numbered((other, over, left)), row)
            found.append(told)
        return found

    def _behind(self, above, kinds):
        """What is held behind these kinds, as two parts, and the row that is written."""
        if len(kinds) <= self._delay:
            return above, kinds, None
        table = table_over(self._source, kinds[1:], self._source.blank())
        row = self._source.under(above, kinds[0], table)
        return row.over, kinds[1:], row.cells

    def _numbered(self, held):
        if held not in self._numbers:
            self._numbers[held] = len(self._helds)
            self._helds.append(held)
        return self._numbers[held]


def _check_states(states):
    """Refuses what are no states of a machine."""
    if not is_list(states) or not states:
        raise InvalidStates(None)
    for position, state in enumerate(states):
        if not isinstance(state, dict) or not state:
            raise InvalidStates(position)
        if not all([is_name(kind) and _is_step(step, len(states)) for kind, step in state.items()]):
            raise InvalidStates(position)


def _is_step(value, many):
    """Whether this is a tuple of one of so many states, and of what is written."""
    if not isinstance(value, tuple) or len(value) != 2 or not is_place(value[0], many):
        return False
    if value[1] is None:
        return True
    return isinstance(value[1], tuple) and all([is_count(part) for part in value[1]])
