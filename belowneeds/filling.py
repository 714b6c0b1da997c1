"""Filling on line [83]: kinds are taken one by one, and rows are given out as soon as they are complete."""

from belowneeds.errors import TooMany, UnknownKind
from belowneeds.solving import Solution
from belowneeds.trials import Trial

MAX_TAKEN = 200


class Filler:
    """Takes kinds and gives out rows, in sequence."""

    def __init__(self, sheet):
        self._sheet = sheet
        self._plan = sheet.plan()
        # What was taken; behind the end of a trial, until something is asked that changes the filler, also
        # what was taken within it.
        self._taken = []
        self._solution = Solution(sheet, None)
        # One level outside of all trials, and one for each trial that was begun.
        self._levels = [Progress(0, 0, 0, 0)]
        # A mark for each of these trials that has ended.
        self._ended = []

    @property
    def held(self):
        """The number of rows that were taken but not given out."""
        progress = self._progress()
        return progress.taken - progress.out

    @property
    def given(self):
        """The number of rows given out."""
        return self._progress().out

    @property
    def word(self):
        """The tuple of the kinds taken."""
        return tuple(self._taken[:self._progress().taken])

    def take(self, kind):
        """Takes a kind; returns the list of the rows that are given out now."""
        return self.take_all(kind)

    def take_all(self, *kinds):
        """Takes all of the kinds or none; returns the list of the rows that are given out."""
        self._forget_ended_trials()
        before = self._progress()
        place = self._place_behind(before, kinds)
        self._taken.extend(kinds)
        self._solution.add_rows(kinds)
        out = before.out
        while self._solution.is_complete(out + 1):
            out += 1
        self._levels[-1] = Progress(place, len(self._taken), out, self._solution.many_changes())
        return [self._solution.row_values(row) for row in range(before.out + 1, out + 1)]

    def copy(self):
        """An independent one, which is in no trial."""
        self._forget_ended_trials()
        progress = self._progress()
        other = Filler(self._sheet)
        other._taken = list(self._taken)
        other._solution = self._solution.copied(self._sheet)
        other._levels = [Progress(progress.place, progress.taken, progress.out, 0)]
        return other

    def trial(self):
        """A context manager; at its end the filler is as it was at its beginning."""
        return Trial(self, self._ended)

    def begin_trial(self):
        """Keeps how far the filler is, for the end of a trial."""
        self._forget_ended_trials()
        self._levels.append(self._progress())

    def _progress(self):
        """How far the filler is, without the trials that have ended."""
        return self._levels[len(self._levels) - len(self._ended) - 1]

    def _forget_ended_trials(self):
        """Takes back what was done within them: the end of a trial can only be marked."""
        if self._ended:
            progress = self._progress()
            del self._levels[len(self._levels) - len(self._ended):]
            del self._taken[progress.taken:]
            self._solution.take_back(progress.changed, progress.taken)
            self._ended.clear()

    def _place_behind(self, progress, kinds):
        """The place to which these kinds lead; refuses the first one that cannot be taken."""
        place = progress.place
        for position, kind in enumerate(kinds):
            leads = self._plan[place]
            if not isinstance(kind, str) or kind not in leads:
                raise UnknownKind(kind)
            if progress.taken + position >= MAX_TAKEN:
                raise TooMany("rows", MAX_TAKEN)
            place = leads[kind]
        return place


class Progress:
    """How far a filler is: the place, and how many kinds were taken, rows given out and changes made."""

    def __init__(self, place, taken, out, changed):
        self.place = place
        self.taken = taken
        self.out = out
        self.changed = changed


def tried(filler, *kinds):
    """What take_all would return, without an effect."""
    with filler.trial():
        return filler.take_all(*kinds)
