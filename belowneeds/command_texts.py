"""Takes the commands of a desk [93] apart, and reads the texts in them. What was read is kept."""

from belowneeds.checks import is_name
from belowneeds.errors import InvalidCommand, InvalidText
from belowneeds.recall import recalled
from belowneeds.texts import SheetTexts, fill_told, formula_told

MOST_DIGITS = 70
# How many commands, and how many texts of each sort, are kept.
MOST_KEPT = 200
MOST_SHEETS = 50
# What stands behind the first word of each command: the name of a sheet that must be there, another name, a number,
# some names, or all that follows.
SHAPES = {
    "put": ("name", "rest"),
    "formula": ("sheet", "name", "name", "rest"),
    "top": ("sheet", "name", "number"),
    "drop": ("sheet",),
    "undo": (),
    "show": ("sheet",),
    "rows": ("sheet", "names"),
    "cell": ("sheet", "number", "name", "rest"),
    "full": ("sheet", "name"),
    "alike": ("sheet", "name", "sheet", "name"),
    "unused": ("sheet",),
    "states": ("sheet",),
}


class Command:
    """A command that was taken apart."""

    def __init__(self, action, parts, asked):
        """The first word, the list of what stands behind it, and the names among that of sheets that must be there."""
        self.action = action
        self.parts = parts
        self.asked = asked


class CommandTexts:
    """Reads commands and the texts in them, which are often given again."""

    def __init__(self):
        self._commands = {}
        self._formulas = {}
        self._fills = {}
        self._sheets = {}
        self._sheet_texts = SheetTexts()

    def command_in(self, value):
        """The command that this value is; refuses any other value."""
        found = recalled(self._commands, value, command_told, MOST_KEPT) if isinstance(value, str) else None
        if found is None:
            raise InvalidCommand(value)
        return found

    def formula_in(self, text):
        """The formula with this FORMULA."""
        found = recalled(self._formulas, text, formula_told, MOST_KEPT)
        if found is None:
            raise InvalidText(1)
        return found

    def fill_in(self, text):
        """The fill with this FILL."""
        found = recalled(self._fills, text, fill_told, MOST_KEPT)
        if found is None:
            raise InvalidText(1)
        return found

    def sheet_in(self, text):
        """The sheet with this TEXT."""
        found, wrong = recalled(self._sheets, text, self._sheet_or_line, MOST_SHEETS)
        if wrong is not None:
            raise InvalidText(wrong)
        return found

    def _sheet_or_line(self, text):
        # The line feeds of the text, of which the last one is left out.
        lines = text.replace(" | ", "\n")
        return self._sheet_texts.sheet_or_line(f"{lines}\n")


def command_told(text):
    """The command with this text, or None if there is none."""
    action, _, rest = text.partition(" ")
    if action not in SHAPES or "\n" in rest:
        return None
    shape = SHAPES[action]
    if not shape:
        return Command(action, [], []) if text == action else None
    # What stands behind the last of these spaces can have more spaces only if all of it belongs together.
    parts = rest.split(" ", len(shape) - 1)
    if len(parts) < len(shape):
        return None
    asked = []
    for position, form in enumerate(shape):
        if form == "sheet" or form == "name":
            if not is_name(parts[position]):
                return None
            if form == "sheet":
                asked.append(parts[position])
        else:
            parts[position] = _worth_of(parts[position], form)
            if parts[position] is None:
                return None
    return Command(action, parts, asked)


def _worth_of(text, form):
    """What this text of a command tells, or None if it is not of the form."""
    if form == "rest":
        return text if text else None
    if form == "number":
        return int(text) if _is_decimal(text) else None
    names = text.split(" ")
    # A word can have many kinds, of which most are the same.
    return names if all([is_name(name) for name in sorted(set(names))]) else None


def _is_decimal(text):
    """Whether this is a count in decimal, without unnecessary zeros."""
    if not text.isascii() or not text.isdigit() or len(text) > MOST_DIGITS:
        return False
    return text == "0" or not text.startswith("0")
