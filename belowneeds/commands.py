"""The commands of a desk [93]: their words, and what those that change nothing answer."""

from belowneeds.alike import first_unlike
from belowneeds.checks import is_name
from belowneeds.cuts import Cut
from belowneeds.endless import Endless
from belowneeds.followed import never_followed
from belowneeds.fullness import column_delay, first_open_row
from belowneeds.machines import machine_of
from belowneeds.texts import read_fill

MOST_DIGITS = 70
# What stands behind the first word of each command: the name of a sheet that is there, a new one, another name, a
# number, some names, or all that follows.
SHAPES = {
    "put": ("new", "rest"),
    "formula": ("sheet", "name", "name", "rest"),
    "top": ("sheet", "name", "number"),
    "drop": ("sheet",),
    "undo": (),
    "show": ("sheet",),
    "rows": ("sheet", "names"),
    "cell": ("sheet", "number", "name", "rest"),
    "full": ("sheet", "name"),
    "alike": ("sheet", "name", "sheet", "name"),
    "unused": ("sheet",),
    "states": ("sheet",),
}


def command_parts(command):
    """The list of the first word of a command and what belongs to it; None for any value that is no command."""
    if not isinstance(command, str) or "\n" in command:
        return None
    word = command.split(" ")[0]
    if word not in SHAPES:
        return None
    shape = SHAPES[word]
    # What stands behind the last of these spaces can have more spaces only if all of it belongs together.
    told = command.split(" ", max(1, len(shape)))
    if len(told) != len(shape) + 1:
        return None
    if not all([_is_part(part, form) for part, form in zip(told[1:], shape)]):
        return None
    return [word, *[_part_of(part, form) for part, form in zip(told[1:], shape)]]


def names_used(parts):
    """The names of sheets in a command that must be there, in sequence."""
    return [part for part, form in zip(parts[1:], SHAPES[parts[0]]) if form == "sheet"]


def text_told(sheet):
    """The text of a sheet as it stands in a command."""
    return str(sheet).rstrip("\n").replace("\n", " | ")


def answer_of(parts, sheets):
    """The answer of a command that changes nothing; all of its sheets are there."""
    word = parts[0]
    sheet = sheets[parts[1]]
    if word == "show":
        return text_told(sheet)
    if word == "rows":
        return _rows_told(sheet, parts[2])
    if word == "cell":
        return _cell_told(sheet, parts[2], parts[3], parts[4])
    if word == "full":
        return _fullness_told(sheet, parts[2])
    if word == "alike":
        found = first_unlike(sheet, parts[2], sheets[parts[3]], parts[4])
        return "alike" if found is None else f"unlike in row {found[0]}"
    if word == "unused":
        told = [f"{kind} {column} {number}" for kind, column, number in never_followed(sheet)]
        return ", ".join(told) if told else "-"
    return str(len(machine_of(sheet)))


def _is_part(part, form):
    if form == "rest":
        return part != ""
    if form == "number":
        return _is_decimal(part)
    if form == "names":
        return all([is_name(name) for name in part.split(" ")])
    return is_name(part)


def _part_of(part, form):
    if form == "number":
        return int(part)
    return part.split(" ") if form == "names" else part


def _is_decimal(text):
    """Whether this is a count in decimal, without unnecessary zeros."""
    if not text.isascii() or not text.isdigit() or len(text) > MOST_DIGITS:
        return False
    return text == "0" or not text.startswith("0")


def _rows_told(sheet, word):
    cut = Cut(sheet, word)
    rows = [list(cut.row_values(row).values()) for row in range(1, len(word) + 1)]
    return " | ".join([" ".join(["-" if value is None else str(value) for value in row]) for row in rows])


def _cell_told(sheet, row, column, text):
    value = Endless(sheet, read_fill(text)).value_at(row, column)
    return "none" if value is None else str(value)


def _fullness_told(sheet, column):
    delay = column_delay(sheet, column)
    return f"open from row {first_open_row(sheet, column)}" if delay is None else f"delay {delay}"
