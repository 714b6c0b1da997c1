"""Reads the texts of sheets and fills [25] [26]."""

from belowneeds.checks import DIGITS, is_name
from belowneeds.errors import InvalidFill, InvalidText
from belowneeds.fills import Fill
from belowneeds.formulas import Formula
from belowneeds.sheet_checks import GREATEST_MODULUS, LEAST_MODULUS, MAX_PLACES, Checked, first_unreached
from belowneeds.sheets import Sheet


def read_sheet(text):
    """The sheet with this text."""
    if not isinstance(text, str):
        raise InvalidText(None)
    lines = text.split("\n")
    # What stands behind the last line feed is a line only if it is not empty.
    last = lines.pop()
    reading = SheetLines()
    many = reading.many_taken(lines)
    if many < len(lines) or last or not reading.has_plan():
        raise InvalidText(many + 1)
    if not reading.is_plan_whole():
        raise InvalidText(many)
    return reading.sheet_told()


def read_fill(text):
    """The fill with this text."""
    if not isinstance(text, str):
        raise InvalidText(None)
    lead, _, turn = text.partition("(")
    try:
        fill = Fill(lead.split(" ")[:-1], turn[:-1].split(" "))
    except InvalidFill:
        raise InvalidText(1) from None
    # So spaces, parentheses and the normal form are as they must be.
    if str(fill) != text:
        raise InvalidText(1)
    return fill


class SheetLines:
    """The lines of the text of a sheet, which are taken one by one."""

    def __init__(self):
        self._modulus = 0
        self._columns = []
        self._top = {}
        self._kinds = {}
        self._plan = []
        # The formulas by their lines: many lines are the same.
        self._formulas = {}

    def many_taken(self, lines):
        """Takes the lines; returns how many there are ahead of the first wrong one."""
        heads = (self._takes_modulus, self._takes_columns, self._takes_top)
        for number, line in enumerate(lines[:3]):
            take = heads[number]
            if not take(line):
                return number
        done = min(3, len(lines))
        while done < len(lines) and self._takes_kind(lines[done]):
            taken = self._many_formulas(lines[done + 1:done + 1 + len(self._columns)])
            done += 1 + taken
            if taken < len(self._columns):
                return done
        while done < len(lines) and self._takes_plan(lines[done]):
            done += 1
        return done

    def has_plan(self):
        """Whether there is a line with a place."""
        return len(self._plan) > 0

    def is_plan_whole(self):
        """Whether the places, which are taken all, make a plan."""
        many = len(self._plan)
        if max([place for leads in self._plan for place in leads.values()]) >= many:
            return False
        return first_unreached(self._plan) is None

    def sheet_told(self):
        """The sheet, behind all lines."""
        parts = Checked(self._modulus, tuple(self._columns), self._top, self._kinds, self._plan)
        return Sheet(self._modulus, self._columns, self._top, parts)

    def _takes_modulus(self, line):
        word, _, told = line.partition(" ")
        if word != "modulus" or told not in [str(number) for number in range(LEAST_MODULUS, GREATEST_MODULUS + 1)]:
            return False
        self._modulus = int(told)
        return True

    def _takes_columns(self, line):
        words = line.split(" ")
        columns = words[1:]
        if words[0] != "columns" or not 1 <= len(columns) <= Sheet.MAX_COLUMNS:
            return False
        if not all([is_name(column) for column in columns]) or len(set(columns)) < len(columns):
            return False
        self._columns = columns
        return True

    def _takes_top(self, line):
        words = line.split(" ")
        if words[0] != "top" or len(words) != len(self._columns) + 1:
            return False
        for column, word in zip(self._columns, words[1:]):
            if DIGITS.get(word, self._modulus) >= self._modulus:
                return False
            self._top[column] = DIGITS[word]
        return True

    def _takes_kind(self, line):
        word, _, kind = line.partition(" ")
        if word != "kind" or not is_name(kind):
            return False
        if len(self._kinds) == Sheet.MAX_KINDS or not _is_last(kind, self._kinds):
            return False
        self._kinds[kind] = {}
        return True

    def _many_formulas(self, lines):
        """Takes the formulas of the last kind; returns how many there are ahead of the first wrong line."""
        row = self._kinds[max(self._kinds)]
        for column, line in zip(self._columns, lines):
            if line not in self._formulas and not self._takes_formula(line):
                return len(row)
            row[column] = self._formulas[line]
        return len(row)

    def _takes_formula(self, line):
        try:
            formula = Formula.read(line)
        except InvalidText:
            return False
        if not formula.fits(self._modulus, self._columns):
            return False
        self._formulas[line] = formula
        return True

    def _takes_plan(self, line):
        words = line.split(" ")
        if words[0] != "plan" or len(words) < 3 or len(words) % 2 == 0 or len(self._plan) == MAX_PLACES:
            return False
        leads = {}
        for kind, place in zip(words[1::2], words[2::2]):
            if kind not in self._kinds or not _is_last(kind, leads) or DIGITS.get(place, MAX_PLACES) >= MAX_PLACES:
                return False
            leads[kind] = DIGITS[place]
        self._plan.append(leads)
        return True


def _is_last(name, names):
    """Whether a name is greater than all of these."""
    return not names or name > max(names)
