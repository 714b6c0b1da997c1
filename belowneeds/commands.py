"""The commands of a desk [93]: their words, and what those that change nothing answer."""

from belowneeds.alike import first_unlike
from belowneeds.checks import is_name
from belowneeds.cuts import Cut
from belowneeds.endless import value_in
from belowneeds.followed import never_followed
from belowneeds.fullness import column_delay, first_open_row
from belowneeds.machines import machine_of
from belowneeds.texts import read_fill

MOST_DIGITS = 70
# What stands behind the first word of each command: a name, a number, some names, or all that follows.
SHAPES = {
    "put": ("name", "rest"),
    "formula": ("name", "name", "name", "rest"),
    "top": ("name", "name", "number"),
    "drop": ("name",),
    "undo": (),
    "show": ("name",),
    "rows": ("name", "names"),
    "cell": ("name", "number", "name", "rest"),
    "full": ("name", "name"),
    "alike": ("name", "name", "name", "name"),
    "unused": ("name",),
    "states": ("name",),
}


def command_parts(command):
    """The list of the first word of a command and what belongs to it; None for any value that is no command."""
    if not isinstance(command, str) or "\n" in command:
        return None
    word, _, rest = command.partition(" ")
    if word not in SHAPES:
        return None
    shape = SHAPES[word]
    if not shape:
        return [word] if command == word else None
    # What stands behind the last of these spaces can have more spaces only if all of it belongs together.
    told = rest.split(" ", len(shape) - 1)
    if len(told) < len(shape):
        return None
    parts = [word]
    for form, text in zip(shape, told):
        part = _part_of(text, form)
        if part is None:
            return None
        parts.append(part)
    return parts


def names_used(parts):
    """The names of sheets in a command that must be there, in sequence."""
    if parts[0] in ("put", "undo"):
        return []
    return [parts[1], parts[3]] if parts[0] == "alike" else [parts[1]]


def text_told(sheet):
    """The text of a sheet as it stands in a command."""
    return str(sheet).rstrip("\n").replace("\n", " | ")


def answer_of(parts, sheets):
    """The answer of a command that changes nothing; all of its sheets are there."""
    word = parts[0]
    sheet = sheets[parts[1]]
    if word == "show":
        return text_told(sheet)
    if word == "rows":
        return _rows_told(sheet, parts[2])
    if word == "cell":
        return _cell_told(sheet, parts[2], parts[3], parts[4])
    if word == "full":
        return _fullness_told(sheet, parts[2])
    if word == "alike":
        found = first_unlike(sheet, parts[2], sheets[parts[3]], parts[4])
        return "alike" if found is None else f"unlike in row {found[0]}"
    if word == "unused":
        told = [f"{kind} {column} {number}" for kind, column, number in never_followed(sheet)]
        return ", ".join(told) if told else "-"
    return str(len(machine_of(sheet)))


def _part_of(text, form):
    """What this text of a command tells, or None if it is not of the form."""
    if form == "rest":
        return text if text else None
    if form == "number":
        return int(text) if _is_decimal(text) else None
    if form == "names":
        names = text.split(" ")
        # A word can have many kinds, of which most are the same.
        return names if all([is_name(name) for name in sorted(set(names))]) else None
    return text if is_name(text) else None


def _is_decimal(text):
    """Whether this is a count in decimal, without unnecessary zeros."""
    if not text.isascii() or not text.isdigit() or len(text) > MOST_DIGITS:
        return False
    return text == "0" or not text.startswith("0")


def _rows_told(sheet, word):
    cut = Cut(sheet, word)
    rows = [list(cut.row_values(row).values()) for row in range(1, len(word) + 1)]
    return " | ".join([" ".join(["-" if value is None else str(value) for value in row]) for row in rows])


def _cell_told(sheet, row, column, text):
    value = value_in(sheet, read_fill(text), row, column)
    return "none" if value is None else str(value)


def _fullness_told(sheet, column):
    delay = column_delay(sheet, column)
    return f"open from row {first_open_row(sheet, column)}" if delay is None else f"delay {delay}"
