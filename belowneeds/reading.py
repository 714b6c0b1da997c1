"""Takes the text of a formula [12] apart, into the pieces of which the formula is made."""

from belowneeds.checks import DIGITS, MAX_DEPTH, MAX_NODES, WHERES, is_chosen, is_name
from belowneeds.errors import InvalidText

# For each node 46 characters, those of a choice with all numbers.
LONGEST_TEXT = 1840
# Stands behind all words; it is no word of a formula itself.
END = "."


class FormulaText:
    """The words of the text of a formula, and what was read of them."""

    def __init__(self, text):
        # The next word is the last one of the list.
        self._words = [END, *words_of(text)[::-1]]
        self._pieces = []

    def pieces(self):
        """A tuple (word, what belongs to it) for each node, which stands behind those of its parts."""
        self._read_formula(0)
        if len(self._words) > 1 or len(self._pieces) > MAX_NODES:
            raise InvalidText(1)
        return list(self._pieces)

    def _read_formula(self, depth):
        # The depth ends the reading at once: a text may be nested deeper than Python can follow.
        if depth > MAX_DEPTH:
            raise InvalidText(1)
        word = self._words.pop()
        if word in DIGITS:
            self._pieces.append(("number", DIGITS[word]))
        elif word in WHERES:
            self._pieces.append((word, self._name()))
        elif word == "(":
            self._read_formula(depth + 1)
            sign = self._needed(("+", "="))
            self._read_last(sign, depth)
        elif word in ("least(", "most("):
            self._read_formula(depth + 1)
            self._needed((",",))
            self._read_last(word.rstrip("("), depth)
        elif word == "if":
            self._read_choice(depth)
        else:
            raise InvalidText(1)

    def _read_last(self, sign, depth):
        """Reads the right part of a pair, and the end of the pair."""
        self._read_formula(depth + 1)
        self._needed((")",))
        self._pieces.append((sign, None))

    def _read_choice(self, depth):
        self._read_formula(depth + 1)
        self._needed(("in",))
        self._needed(("{",))
        chosen = self._listed_numbers()
        self._needed(("then",))
        self._read_formula(depth + 1)
        self._needed(("else",))
        self._read_formula(depth + 1)
        self._pieces.append(("if", chosen))

    def _listed_numbers(self):
        if self._words[-1] == "":
            self._words.pop()
            self._needed(("}",))
            return ()
        numbers = [self._digit()]
        while self._needed((",", "}")) == ",":
            numbers.append(self._digit())
        if not is_chosen(numbers):
            raise InvalidText(1)
        return tuple(numbers)

    def _digit(self):
        word = self._words.pop()
        if word not in DIGITS:
            raise InvalidText(1)
        return DIGITS[word]

    def _name(self):
        name = self._words.pop()
        if not is_name(name):
            raise InvalidText(1)
        return name

    def _needed(self, words):
        """The next word, which must be one of these."""
        word = self._words.pop()
        if word not in words:
            raise InvalidText(1)
        return word


def words_of(text):
    """The list of the words of a text of a formula, with spaces around all signs; no two texts have the same words."""
    if len(text) > LONGEST_TEXT:
        raise InvalidText(1)
    # Only within the braces of no numbers an empty word stands then.
    spaced = text.replace("(", "( ").replace(")", " )").replace(",", " ,").replace("{", "{ ").replace("}", " }")
    return spaced.split(" ")
