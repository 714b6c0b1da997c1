"""What the commands of a desk [93] do and answer. All sheets of which they are asked are there."""

from belowneeds.alike import first_unlike
from belowneeds.cuts import rows_in
from belowneeds.endless import value_in
from belowneeds.followed import never_followed
from belowneeds.fullness import column_delay, first_open_row
from belowneeds.machines import machine_of


def is_change(command):
    """Whether a command changes the sheets, by more than taking something back."""
    return command.action in CHANGES


def sheets_behind(command, sheets, texts):
    """The sheets by their names behind a command that changes them; texts reads what stands in it."""
    found = dict(sheets)
    change = CHANGES[command.action]
    change(command.parts, found, texts)
    return found


def answer_of(command, sheets, texts):
    """The answer of a command that changes nothing."""
    told = ANSWERS[command.action]
    return told(command.parts, sheets, texts)


def _put(parts, sheets, texts):
    name, text = parts
    sheets[name] = texts.sheet_in(text)


def _put_formula(parts, sheets, texts):
    name, kind, column, text = parts
    sheets[name] = sheets[name].with_formula(kind, column, texts.formula_in(text))


def _put_top(parts, sheets, texts):
    name, column, value = parts
    sheets[name] = sheets[name].topped({column: value})


def _drop(parts, sheets, texts):
    del sheets[parts[0]]


def _text_told(parts, sheets, texts):
    return str(sheets[parts[0]]).rstrip("\n").replace("\n", " | ")


def _rows_told(parts, sheets, texts):
    name, word = parts
    rows = rows_in(sheets[name], word)
    return " | ".join([" ".join(["-" if value is None else str(value) for value in row]) for row in rows])


def _cell_told(parts, sheets, texts):
    name, row, column, text = parts
    value = value_in(sheets[name], texts.fill_in(text), row, column)
    return "none" if value is None else str(value)


def _fullness_told(parts, sheets, texts):
    name, column = parts
    delay = column_delay(sheets[name], column)
    return f"open from row {first_open_row(sheets[name], column)}" if delay is None else f"delay {delay}"


def _likeness_told(parts, sheets, texts):
    name, column, other, other_column = parts
    found = first_unlike(sheets[name], column, sheets[other], other_column)
    return "alike" if found is None else f"unlike in row {found[0]}"


def _unused_told(parts, sheets, texts):
    told = [f"{kind} {column} {number}" for kind, column, number in never_followed(sheets[parts[0]])]
    return ", ".join(told) if told else "-"


def _states_told(parts, sheets, texts):
    return str(len(machine_of(sheets[parts[0]])))


CHANGES = {"put": _put, "formula": _put_formula, "top": _put_top, "drop": _drop}
ANSWERS = {
    "show": _text_told,
    "rows": _rows_told,
    "cell": _cell_told,
    "full": _fullness_told,
    "alike": _likeness_told,
    "unused": _unused_told,
    "states": _states_told,
}
