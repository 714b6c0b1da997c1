"""Filling on line [83]: kinds are taken one by one, and rows are given out as soon as they are complete."""

from belowneeds.errors import TooMany, UnknownKind
from belowneeds.solving import Solution

MAX_TAKEN = 200


class Filler:
    """Takes kinds and gives out rows, in sequence."""

    def __init__(self, sheet):
        self._sheet = sheet
        # One level outside of all trials, and one for each trial that was begun.
        self._levels = [Progress(0, (), 0, Solution(sheet, {}))]
        # A mark for each of these trials that has ended.
        self._ended = []

    @property
    def held(self):
        """The number of rows that were taken but not given out."""
        progress = self._open_levels()[-1]
        return len(progress.taken) - progress.out

    @property
    def given(self):
        """The number of rows given out."""
        return self._open_levels()[-1].out

    @property
    def word(self):
        """The tuple of the kinds taken."""
        return self._open_levels()[-1].taken

    def take(self, kind):
        """Takes a kind; returns the list of the rows that are given out now."""
        return self.take_all(kind)

    def take_all(self, *kinds):
        """Takes all of the kinds or none; returns the list of the rows that are given out."""
        levels = self._open_levels()
        before = levels[-1]
        after = before
        for kind in kinds:
            after = _behind(self._sheet, after, kind)
        self._set_levels([*levels[:-1], after])
        return [after.solution.row_values(row) for row in range(before.out + 1, after.out + 1)]

    def copy(self):
        """An independent one, which is in no trial."""
        other = Filler(self._sheet)
        other._levels = self._open_levels()[-1:]
        return other

    def trial(self):
        """A context manager; at its end the filler is as it was at its beginning."""
        return Trial(self, self._ended)

    def _begin_trial(self):
        levels = self._open_levels()
        self._set_levels([*levels, levels[-1]])

    def _open_levels(self):
        return self._levels[:len(self._levels) - len(self._ended)]

    def _set_levels(self, levels):
        self._levels = levels
        self._ended.clear()


class Progress:
    """How far a filler is. It does not change, so that trials and copies can share it."""

    def __init__(self, place, taken, out, solution):
        self.place = place
        self.taken = taken
        self.out = out
        self.solution = solution


class Trial:
    """What is done to a filler within it has no effect behind it."""

    def __init__(self, filler, ended):
        self._filler = filler
        self._ended = ended

    def __enter__(self):
        self._filler._begin_trial()
        return self._filler

    def __exit__(self, kind, value, trace):
        self._ended.append(1)


def tried(filler, *kinds):
    """What take_all would return, without an effect."""
    twin = filler.copy()
    return twin.take_all(*kinds)


def _behind(sheet, progress, kind):
    """The progress behind one more kind."""
    if not isinstance(kind, str) or kind not in sheet.allowed(progress.place):
        raise UnknownKind(kind)
    if len(progress.taken) >= MAX_TAKEN:
        raise TooMany("rows", MAX_TAKEN)
    solution = progress.solution.copied()
    solution.add_rows([kind])
    out = progress.out
    while solution.is_complete(out + 1):
        out += 1
    place = sheet.place_behind([kind], place=progress.place)
    return Progress(place, (*progress.taken, kind), out, solution)
