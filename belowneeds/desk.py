"""A desk [93], which has sheets by names and performs commands."""

from belowneeds.commands import answer_of, command_parts, names_used
from belowneeds.errors import InvalidCommand, NameTaken, NothingToUndo, UnknownName
from belowneeds.formulas import Formula
from belowneeds.texts import read_sheet
from belowneeds.trials import Trial

DONE = "done"


class Desk:
    """Sheets by names, which commands put, change, ask and drop."""

    def __init__(self):
        # One level outside of all trials, and one for each trial that was begun.
        self._levels = [Level({}, (), 0)]
        # A mark for each of these trials that has ended.
        self._ended = []

    def do(self, command):
        """Performs a command; returns the answer."""
        return self.do_all(command)[0]

    def do_all(self, *commands):
        """Performs all of the commands or none; returns the list of the answers."""
        level = self._level()
        answers = []
        for command in commands:
            level, answer = _performed(level, command)
            answers.append(answer)
        self._forget_ended_trials()
        self._levels[-1] = level
        return answers

    def undo(self):
        """Takes back the last command that changed the sheets and is not taken back."""
        return self.do("undo")

    def names(self):
        """The sorted list of the names."""
        return sorted(self._level().sheets)

    def sheet_of(self, name):
        """The sheet with this name."""
        if name not in self:
            raise UnknownName(name)
        return self._level().sheets[name]

    def log(self):
        """The list of the commands that changed the sheets and are not taken back."""
        return [command for command, _ in self._level().steps]

    def trial(self):
        """A context manager; at its end the desk is as it was at its beginning."""
        return Trial(self, self._ended)

    def begin_trial(self):
        """Keeps how the desk is, for the end of a trial."""
        self._forget_ended_trials()
        level = self._level()
        self._levels.append(Level(level.sheets, level.steps, len(level.steps)))

    def __contains__(self, name):
        return isinstance(name, str) and name in self._level().sheets

    def __len__(self):
        return len(self._level().sheets)

    def _level(self):
        """How the desk is, without the trials that have ended."""
        return self._levels[len(self._levels) - len(self._ended) - 1]

    def _forget_ended_trials(self):
        # The end of a trial can only be marked.
        if self._ended:
            del self._levels[len(self._levels) - len(self._ended):]
            self._ended.clear()


class Level:
    """How a desk is. It does not change."""

    def __init__(self, sheets, steps, fixed):
        """The sheets by names; for each command that changed them, it and the sheets ahead of it; how many stay."""
        self.sheets = sheets
        self.steps = steps
        self.fixed = fixed


def tried(desk, *commands):
    """What the commands would answer, without an effect."""
    with desk.trial():
        return desk.do_all(*commands)


def _performed(level, command):
    """The level behind a command, and the answer."""
    parts = command_parts(command)
    if parts is None:
        raise InvalidCommand(command)
    if parts[0] == "put" and parts[1] in level.sheets:
        raise NameTaken(parts[1])
    for name in names_used(parts):
        if name not in level.sheets:
            raise UnknownName(name)
    if parts[0] == "undo":
        return _taken_back(level), DONE
    if parts[0] in ("put", "formula", "top", "drop"):
        steps = (*level.steps, (command, level.sheets))
        return Level(_changed(parts, level.sheets), steps, level.fixed), DONE
    return level, answer_of(parts, level.sheets)


def _taken_back(level):
    if len(level.steps) == level.fixed:
        raise NothingToUndo()
    _, sheets = level.steps[-1]
    return Level(sheets, level.steps[:-1], level.fixed)


def _changed(parts, sheets):
    """The sheets behind a command that changes them."""
    word, name = parts[0], parts[1]
    found = dict(sheets)
    if word == "put":
        # The line feeds of the text, of which the last one is left out.
        text = parts[2].replace(" | ", "\n")
        found[name] = read_sheet(f"{text}\n")
    elif word == "formula":
        found[name] = found[name].with_formula(parts[2], parts[3], Formula.read(parts[4]))
    elif word == "top":
        found[name] = found[name].topped({parts[2]: parts[3]})
    else:
        del found[name]
    return found
