"""Takes the text of a formula [12] apart, into the pieces of which the formula is made."""

from belowneeds.checks import GREATEST_NUMBER, MAX_DEPTH, MAX_NODES, WHERES, is_chosen, is_name
from belowneeds.errors import InvalidText

BEGINNINGS = ("if ", "(", "least(", "most(", "here ", "up ", "down ")


class FormulaText:
    """The text of a formula, and how far it is read."""

    def __init__(self, text):
        self._text = text
        self._at = 0
        self._pieces = []

    def pieces(self):
        """A tuple (word, what belongs to it) for each node, which stands behind those of its parts."""
        self._read_formula(0)
        if self._at < len(self._text) or len(self._pieces) > MAX_NODES:
            raise InvalidText(1)
        return list(self._pieces)

    def _read_formula(self, depth):
        # The depth ends the reading at once: a text may be nested deeper than Python can follow.
        if depth > MAX_DEPTH:
            raise InvalidText(1)
        beginning = self._one_of(BEGINNINGS)
        if beginning is None:
            self._pieces.append(("number", self._digit()))
            return
        word = beginning.rstrip()
        if word in WHERES:
            self._pieces.append((word, self._name()))
        elif word == "if":
            self._read_choice(depth)
        else:
            self._read_pair(word, depth)

    def _read_pair(self, word, depth):
        self._read_formula(depth + 1)
        if word == "(":
            sign = self._needed((" + ", " = ")).strip()
        else:
            sign = word.rstrip("(")
            self._needed((", ",))
        self._read_formula(depth + 1)
        self._needed((")",))
        self._pieces.append((sign, None))

    def _read_choice(self, depth):
        self._read_formula(depth + 1)
        self._needed((" in {",))
        chosen = self._listed_numbers()
        self._needed((" then ",))
        self._read_formula(depth + 1)
        self._needed((" else ",))
        self._read_formula(depth + 1)
        self._pieces.append(("if", chosen))

    def _listed_numbers(self):
        if self._one_of(("}",)) is not None:
            return ()
        numbers = [self._digit()]
        while self._needed((", ", "}")) == ", ":
            numbers.append(self._digit())
        if not is_chosen(numbers):
            raise InvalidText(1)
        return tuple(numbers)

    def _digit(self):
        return int(self._needed([str(number) for number in range(GREATEST_NUMBER + 1)]))

    def _name(self):
        end = self._at
        while end < len(self._text) and "a" <= self._text[end] <= "z":
            end += 1
        name = self._text[self._at:end]
        if not is_name(name):
            raise InvalidText(1)
        self._at = end
        return name

    def _one_of(self, words):
        """The first of the words with which the text goes on, which is read then, or None."""
        for word in words:
            if self._text.startswith(word, self._at):
                self._at += len(word)
                return word
        return None

    def _needed(self, words):
        word = self._one_of(words)
        if word is None:
            raise InvalidText(1)
        return word
