"""A desk [93], which has sheets by names and performs commands."""

from belowneeds.command_texts import CommandTexts
from belowneeds.commands import answer_of, is_change, sheets_behind
from belowneeds.errors import NameTaken, NothingToUndo, UnknownName
from belowneeds.trials import Trial

DONE = "done"
# How many levels behind commands are kept.
MOST_LEVELS = 50


class Desk:
    """Sheets by names, which commands put, change, ask and drop."""

    def __init__(self):
        empty = Level({}, None, None)
        # How the desk was at first, and at the beginning of each trial that was begun; at last, how it is.
        self._levels = [empty, empty]
        # A mark for each of these trials that has ended.
        self._ended = []
        self._texts = CommandTexts()
        # The levels behind commands, by the level and the command.
        self._levels_behind = {}

    def do(self, command):
        """Performs a command; returns the answer."""
        if self._ended:
            self._forget_ended_trials()
        level, answer = self._performed(self._levels[-1], command, self._levels[-2])
        self._levels[-1] = level
        return answer

    def do_all(self, *commands):
        """Performs all of the commands or none; returns the list of the answers."""
        if self._ended:
            self._forget_ended_trials()
        level, answers = self._all_performed(commands, self._levels[-2])
        self._levels[-1] = level
        return answers

    def answers_in_trial(self, commands):
        """The list of what these commands would answer in a trial."""
        if self._ended:
            self._forget_ended_trials()
        return self._all_performed(commands, self._levels[-1])[1]

    def undo(self):
        """Takes back the last command that changed the sheets and is not taken back."""
        return self.do("undo")

    def names(self):
        """The sorted list of the names."""
        return sorted(self._level().sheets)

    def sheet_of(self, name):
        """The sheet with this name."""
        sheets = self._level().sheets
        if not isinstance(name, str) or name not in sheets:
            raise UnknownName(name)
        return sheets[name]

    def log(self):
        """The list of the commands that changed the sheets and are not taken back."""
        level = self._level()
        commands = []
        while level.before is not None:
            commands.append(level.last_command)
            level = level.before
        return commands[::-1]

    def trial(self):
        """A context manager; at its end the desk is as it was at its beginning."""
        return Trial(self, self._ended)

    def begin_trial(self):
        """Keeps how the desk is, for the end of a trial."""
        self._forget_ended_trials()
        self._levels.append(self._levels[-1])

    def __contains__(self, name):
        return isinstance(name, str) and name in self._level().sheets

    def __len__(self):
        return len(self._level().sheets)

    def _level(self):
        """How the desk is, without the trials that have ended."""
        return self._levels[-1 - len(self._ended)]

    def _forget_ended_trials(self):
        # The end of a trial can only be marked.
        if self._ended:
            del self._levels[len(self._levels) - len(self._ended):]
            self._ended.clear()

    def _all_performed(self, commands, first):
        """The level behind these commands, and the list of the answers."""
        level = self._levels[-1]
        answers = []
        for command in commands:
            level, answer = self._performed(level, command, first)
            answers.append(answer)
        return level, answers

    def _performed(self, level, value, first):
        """The level behind a command, and the answer; nothing is taken back of what was done up to the first level."""
        command = self._texts.command_in(value)
        sheets = level.sheets
        if command.action == "put" and command.parts[0] in sheets:
            raise NameTaken(command.parts[0])
        for name in command.asked:
            if name not in sheets:
                raise UnknownName(name)
        if is_change(command):
            return self._changed(level, value, command), DONE
        if command.action == "undo":
            if level.many == first.many:
                raise NothingToUndo()
            return level.before, DONE
        return level, answer_of(command, sheets, self._texts)

    def _changed(self, level, value, command):
        """The level behind a command that changes the sheets."""
        key = (level, value)
        if key not in self._levels_behind:
            sheets = sheets_behind(command, level.sheets, self._texts)
            if len(self._levels_behind) >= MOST_LEVELS:
                self._levels_behind = {}
            self._levels_behind[key] = Level(sheets, level, value)
        return self._levels_behind[key]


class Level:
    """How a desk is. It does not change."""

    def __init__(self, sheets, before, command):
        """The sheets by names, the level ahead of the last command that changed them, and this command, or None."""
        self.sheets = sheets
        self.before = before
        self.last_command = command
        # How many commands led here.
        self.many = 0 if before is None else before.many + 1


def tried(desk, *commands):
    """What the commands would answer, without an effect."""
    return desk.answers_in_trial(commands)
