"""Reads the texts of sheets and fills [25] [26]."""

from belowneeds.checks import DIGITS, is_name
from belowneeds.errors import InvalidFill, InvalidText
from belowneeds.fills import Fill
from belowneeds.formulas import Formula
from belowneeds.recall import recalled
from belowneeds.sheet_checks import MAX_COLUMNS, MAX_KINDS, MAX_PLACES, Checked, first_unreached
from belowneeds.sheets import Sheet

# The lines of the modulus, and the numbers of places, as they stand in texts.
MODULI = {
    "modulus 2": 2, "modulus 3": 3, "modulus 4": 4, "modulus 5": 5, "modulus 6": 6, "modulus 7": 7, "modulus 8": 8,
    "modulus 9": 9,
}
PLACES = {"0": 0, "1": 1, "2": 2}
# How many heads of texts are kept, and how many lines for each.
MOST_HEADS = 10
MOST_LINES = 200


def read_sheet(text):
    """The sheet with this text."""
    if not isinstance(text, str):
        raise InvalidText(None)
    sheet, wrong = SheetTexts().sheet_or_line(text)
    if wrong is not None:
        raise InvalidText(wrong)
    return sheet


def read_fill(text):
    """The fill with this text."""
    if not isinstance(text, str):
        raise InvalidText(None)
    fill = fill_told(text)
    if fill is None:
        raise InvalidText(1)
    return fill


def fill_told(text):
    """The fill with this text, or None if there is none."""
    lead, _, turn = text.partition("(")
    try:
        fill = Fill(lead.split(" ")[:-1], turn[:-1].split(" "))
    except InvalidFill:
        return None
    # So spaces, parentheses and the normal form are as they must be.
    return fill if str(fill) == text else None


def formula_told(text):
    """The formula with this text, or None if there is none."""
    try:
        return Formula.read(text)
    except InvalidText:
        return None


class SheetTexts:
    """Reads texts of sheets. What their lines told is kept, as the next text often has most of them, too."""

    def __init__(self):
        self._heads = {}

    def sheet_or_line(self, text):
        """A tuple of the sheet with this text, or None, and of the wrong line, or None."""
        lines = text.split("\n")
        # What stands behind the last line feed is a line only if it is not empty.
        last = lines.pop()
        reading = SheetLines(recalled(self._heads, "\n".join(lines[:2]), head_told, MOST_HEADS))
        many = reading.many_taken(lines)
        if many < len(lines) or last or not reading.has_plan():
            return None, many + 1
        return (reading.sheet_told(), None) if reading.is_plan_whole() else (None, many)


class Head:
    """The modulus and the columns of texts of sheets, and the formulas that were read for these."""

    def __init__(self, text):
        """The first two lines of a text, with a line feed between them; or all of its lines, if there are less."""
        line, _, second = text.partition("\n")
        self.many_values = MODULI.get(line, 0)
        self.heads = _columns_told(second) if self.many_values else []
        # How many of these lines are as they must be.
        self.many_right = 2 if self.heads else 1 if self.many_values else 0
        self._formulas = {}

    def formula_on(self, line):
        """The formula with this text, or None if there is none that fits."""
        return recalled(self._formulas, line, self._fitting, MOST_LINES)

    def _fitting(self, line):
        formula = formula_told(line)
        return formula if formula is not None and formula.fits(self.many_values, self.heads) else None


def head_told(text):
    """The head that has these lines."""
    return Head(text)


class SheetLines:
    """The lines of the text of a sheet, which are taken one by one."""

    def __init__(self, head):
        """What the first two lines tell."""
        self._head = head
        self._heads = head.heads
        self._top = {}
        self._kinds = {}
        self._plan = []
        # The kind of the last line with one, and the greatest place.
        self._last = ""
        self._furthest = 0

    def many_taken(self, lines):
        """Takes the lines; returns how many there are ahead of the first wrong one."""
        if self._head.many_right < 2:
            return self._head.many_right
        if len(lines) < 3 or not self._takes_top(lines[2]):
            return 2
        many = len(self._heads)
        done = 3
        while done < len(lines) and self._takes_kind(lines[done]):
            taken = self._many_formulas(lines[done + 1:done + 1 + many])
            done += 1 + taken
            if taken < many:
                return done
        while done < len(lines) and self._takes_plan(lines[done]):
            done += 1
        return done

    def has_plan(self):
        """Whether there is a line with a place."""
        return len(self._plan) > 0

    def is_plan_whole(self):
        """Whether the places, which are taken all, make a plan."""
        return self._furthest < len(self._plan) and first_unreached(self._plan) is None

    def sheet_told(self):
        """The sheet, behind all lines."""
        modulus, columns = self._head.many_values, tuple(self._heads)
        parts = Checked(modulus, columns, self._top, self._kinds, self._plan)
        return Sheet(modulus, columns, self._top, parts)

    def _takes_top(self, line):
        words = line.split(" ")
        if words[0] != "top" or len(words) != len(self._heads) + 1:
            return False
        many = self._head.many_values
        for column, word in zip(self._heads, words[1:]):
            value = DIGITS.get(word, many)
            if value >= many:
                return False
            self._top[column] = value
        return True

    def _takes_kind(self, line):
        word, _, kind = line.partition(" ")
        if word != "kind" or kind <= self._last or len(self._kinds) == MAX_KINDS or not is_name(kind):
            return False
        self._kinds[kind] = {}
        self._last = kind
        return True

    def _many_formulas(self, lines):
        """Takes the formulas of the last kind; returns how many there are ahead of the first wrong line."""
        row = self._kinds[self._last]
        for column, line in zip(self._heads, lines):
            formula = self._head.formula_on(line)
            if formula is None:
                return len(row)
            row[column] = formula
        return len(row)

    def _takes_plan(self, line):
        words = line.split(" ")
        if words[0] != "plan" or len(words) < 3 or len(words) % 2 == 0 or len(self._plan) == MAX_PLACES:
            return False
        leads = {}
        last = ""
        for kind, told in zip(words[1::2], words[2::2]):
            if kind <= last or kind not in self._kinds or told not in PLACES:
                return False
            leads[kind] = PLACES[told]
            self._furthest = max(self._furthest, leads[kind])
            last = kind
        self._plan.append(leads)
        return True


def _columns_told(line):
    """The list of the columns that a line tells, without any if it is not as it must be."""
    words = line.split(" ")
    columns = words[1:]
    if words[0] != "columns" or len(columns) > MAX_COLUMNS or len(set(columns)) < len(columns):
        return []
    return columns if all([is_name(column) for column in columns]) else []
