"""Reads the texts of sheets and fills [25] [26]."""

from belowneeds.checks import is_name
from belowneeds.errors import InvalidFill, InvalidPlan, InvalidText
from belowneeds.fills import Fill
from belowneeds.formulas import Formula
from belowneeds.sheet_checks import GREATEST_MODULUS, LEAST_MODULUS, MAX_PLACES
from belowneeds.sheets import Sheet


def read_sheet(text):
    """The sheet with this text."""
    if not isinstance(text, str):
        raise InvalidText(None)
    lines = text.split("\n")
    # What stands behind the last line feed is a line only if it is not empty.
    last = lines.pop()
    reading = SheetLines()
    for number, line in enumerate(lines, 1):
        if not reading.takes(line):
            raise InvalidText(number)
    if last or not reading.has_plan():
        raise InvalidText(len(lines) + 1)
    try:
        return reading.sheet_told()
    except InvalidPlan:
        raise InvalidText(len(lines)) from None


def read_fill(text):
    """The fill with this text."""
    if not isinstance(text, str):
        raise InvalidText(None)
    lead, _, turn = text.partition("(")
    try:
        fill = Fill(lead.split(" ")[:-1], turn[:-1].split(" "))
    except InvalidFill:
        raise InvalidText(1) from None
    # So spaces, parentheses and the normal form are as they must be.
    if str(fill) != text:
        raise InvalidText(1)
    return fill


class SheetLines:
    """The lines of the text of a sheet, which are taken one by one."""

    def __init__(self):
        self._modulus = None
        self._columns = []
        self._top = []
        self._kinds = {}
        # The formulas of the last kind.
        self._formulas = []
        self._plan = []

    def takes(self, line):
        """Takes the line that is due; tells whether it is one."""
        words = line.split(" ")
        if self._modulus is None:
            return self._takes_modulus(words)
        if not self._columns:
            return self._takes_columns(words)
        if not self._top:
            return self._takes_top(words)
        if self._kinds and len(self._formulas) < len(self._columns):
            return self._takes_formula(line)
        if words[0] == "plan":
            return self._takes_plan(words[1:])
        return self._takes_kind(words)

    def has_plan(self):
        """Whether there is a line with a place."""
        return len(self._plan) > 0

    def sheet_told(self):
        """The sheet, behind all lines."""
        top = dict(zip(self._columns, self._top))
        kinds = {kind: dict(zip(self._columns, formulas)) for kind, formulas in self._kinds.items()}
        return Sheet(self._modulus, self._columns, top, kinds, self._plan)

    def _takes_modulus(self, words):
        numbers = _texts_of(LEAST_MODULUS, GREATEST_MODULUS)
        if len(words) != 2 or words[0] != "modulus" or words[1] not in numbers:
            return False
        self._modulus = int(words[1])
        return True

    def _takes_columns(self, words):
        columns = words[1:]
        if words[0] != "columns" or not 1 <= len(columns) <= Sheet.MAX_COLUMNS:
            return False
        if not all([is_name(column) for column in columns]) or len(set(columns)) < len(columns):
            return False
        self._columns = columns
        return True

    def _takes_top(self, words):
        if words[0] != "top" or len(words) != len(self._columns) + 1:
            return False
        numbers = _texts_of(0, self._modulus - 1)
        if not all([word in numbers for word in words[1:]]):
            return False
        self._top = [int(word) for word in words[1:]]
        return True

    def _takes_kind(self, words):
        if len(words) != 2 or words[0] != "kind" or not is_name(words[1]):
            return False
        if self._plan or len(self._kinds) == Sheet.MAX_KINDS or not _is_last(words[1], list(self._kinds)):
            return False
        self._formulas = []
        self._kinds[words[1]] = self._formulas
        return True

    def _takes_formula(self, line):
        try:
            formula = Formula.read(line)
        except InvalidText:
            return False
        if not formula.fits(self._modulus, self._columns):
            return False
        self._formulas.append(formula)
        return True

    def _takes_plan(self, words):
        """Takes a line `plan` by the words behind that one."""
        numbers = _texts_of(0, MAX_PLACES - 1)
        leads = {}
        for kind, place in zip(words[::2], words[1::2]):
            if kind not in self._kinds or not _is_last(kind, list(leads)) or place not in numbers:
                return False
            leads[kind] = int(place)
        if not leads or 2 * len(leads) != len(words) or len(self._plan) == MAX_PLACES:
            return False
        self._plan.append(leads)
        return True


def _texts_of(low, high):
    """The texts of these numbers."""
    return [str(number) for number in range(low, high + 1)]


def _is_last(name, names):
    """Whether a name is greater than all of these, which ascend."""
    return not names or name > names[-1]
