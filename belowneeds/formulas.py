"""Formulas [12]: their parts and texts, and how they are worked out [13]."""

from belowneeds.checks import DIGITS, GREATEST_NUMBER, MAX_DEPTH, MAX_NODES
from belowneeds.checks import is_between, is_chosen, is_integer, is_name, is_where
from belowneeds.errors import InvalidChosen, InvalidFormula, InvalidName, InvalidNumber
from belowneeds.errors import InvalidPosition, InvalidText, InvalidWhere, TooMany
from belowneeds.reading import FormulaText

REFERENCES = {"here": "Here", "up": "Up", "down": "Down"}


class Formula:
    """The base class of all formulas. It is not created itself."""

    def __init__(self, name, given, parts):
        """Keeps the name of the class, what its constructor was given, and the formulas among that."""
        many = 1
        depth = 0
        for part in parts:
            many = many + part._many
            if part.depth >= depth:
                depth = part.depth + 1
        if many > MAX_NODES:
            raise TooMany("nodes", MAX_NODES)
        if depth > MAX_DEPTH:
            raise TooMany("depth", MAX_DEPTH)
        self._called = name
        self._given = given
        self._parts = parts
        self._many = many
        self._sequence = None
        self.depth = depth

    @staticmethod
    def read(text):
        """The formula with this text."""
        if not isinstance(text, str):
            raise InvalidText(None)
        if text in DIGITS:
            return Number(DIGITS[text])
        return _built(FormulaText(text).pieces())

    def nodes(self):
        """Yields the tuples (number, node), a formula ahead of its parts, these from left to right."""
        for number, node in enumerate(self._every()):
            yield (number, node)

    def columns_read(self, where):
        """The sorted list of the columns of the references of this sort."""
        if not is_where(where):
            raise InvalidWhere(where)
        # The name of the class, as asking each node for its class takes much longer.
        name = REFERENCES[where]
        return sorted({node.column for node in self._every() if node._called == name})

    def put(self, number, formula):
        """The formula with another formula in the place of the node with this number."""
        if not is_between(number, 0, self._many - 1):
            raise InvalidPosition(number)
        _check_formula(formula)
        old = self._every()[number]
        # Asked of the whole here, as a part that becomes too deep would be refused first.
        if self._many - old._many + formula._many > MAX_NODES:
            raise TooMany("nodes", MAX_NODES)
        return self._with_node(number, formula)

    def fits(self, modulus, columns):
        """Whether all numbers are less than the modulus, and all columns are in the list."""
        return all([node._fits_itself(modulus, columns) for node in self._every()])

    def work_out(self, modulus, above, own, below):
        """The value or None."""
        value, _ = self.looked(modulus, above, own, below)
        return value

    def need(self, modulus, above, own, below):
        """The need as a tuple (where, column), or None."""
        value, looks = self.looked(modulus, above, own, below)
        if value is not None:
            return None
        _, where, column = looks[-1]
        return (where, column)

    def met(self, modulus, above, own, below):
        """The tuples (number, where, column) of the references that are worked out, in sequence."""
        _, looks = self.looked(modulus, above, own, below)
        return looks

    def looked(self, modulus, above, own, below):
        """A tuple of the value or None, and of what met returns; without a value, the need is its last."""
        looks = []
        value = self._worth(0, (modulus, {"up": above, "here": own, "down": below}, looks))
        return value, looks

    def __len__(self):
        return len(range(self._many))

    def __add__(self, other):
        if is_integer(other):
            return Plus(self, Number(other))
        return Plus(self, other)

    def __eq__(self, other):
        return isinstance(other, Formula) and self._called == other._called and self._given == other._given

    def __str__(self):
        return str(self._as_text())

    def __repr__(self):
        told = [repr(part) for part in self._given]
        return f"{self._called}({', '.join(told)})"

    def _every(self):
        """The nodes in sequence. They are kept, as they are asked for much more often than a formula is made."""
        if self._sequence is None:
            found = [self]
            for part in self._parts:
                found.extend(part._every())
            self._sequence = found
        return self._sequence

    def _fits_itself(self, modulus, columns):
        """Whether what stands in this node fits, whatever its parts are."""
        return True

    def _with_node(self, number, formula):
        if number == 0:
            return formula
        parts = []
        first = 1
        for part in self._parts:
            inside = first <= number < first + part._many
            parts.append(part._with_node(number - first, formula) if inside else part)
            first = first + part._many
        return self._of_parts(parts)


class Number(Formula):
    """A number, which is its own value."""

    def __init__(self, value):
        if not is_between(value, 0, GREATEST_NUMBER):
            raise InvalidNumber(value)
        Formula.__init__(self, "Number", (value,), ())
        self.value = value

    def _as_text(self):
        return str(self.value)

    def _fits_itself(self, modulus, columns):
        return self.value < modulus

    def _worth(self, number, around):
        return self.value


class Reference(Formula):
    """The cell of a column in the same row, in the row above or in the row below."""

    def __init__(self, name, where, column):
        if not is_name(column):
            raise InvalidName(column)
        Formula.__init__(self, name, (column,), ())
        self.where = where
        self.column = column

    def _as_text(self):
        return f"{self.where} {self.column}"

    def _fits_itself(self, modulus, columns):
        return self.column in columns

    def _worth(self, number, around):
        _, rows, looks = around
        looks.append((number, self.where, self.column))
        return rows[self.where].get(self.column)


class Here(Reference):
    """The cell of a column in the same row."""

    def __init__(self, column):
        Reference.__init__(self, "Here", "here", column)


class Up(Reference):
    """The cell of a column in the row above."""

    def __init__(self, column):
        Reference.__init__(self, "Up", "up", column)


class Down(Reference):
    """The cell of a column in the row below."""

    def __init__(self, column):
        Reference.__init__(self, "Down", "down", column)


class Pair(Formula):
    """A formula with a left and a right part, which are always worked out both."""

    def __init__(self, name, left, right):
        _check_formula(left)
        _check_formula(right)
        Formula.__init__(self, name, (left, right), (left, right))
        self.left = left
        self.right = right

    def _worth(self, number, around):
        left = self.left._worth(number + 1, around)
        if left is None:
            return None
        right = self.right._worth(number + 1 + self.left._many, around)
        if right is None:
            return None
        return self.joined(left, right, around[0])


class Plus(Pair):
    """The sum of two formulas."""

    def __init__(self, left, right):
        Pair.__init__(self, "Plus", left, right)

    def _as_text(self):
        return f"({self.left} + {self.right})"

    def joined(self, left, right, modulus):
        """The value of two values."""
        return (left + right) % modulus

    def _of_parts(self, parts):
        return Plus(parts[0], parts[1])


class Least(Pair):
    """The lesser one of two formulas."""

    def __init__(self, left, right):
        Pair.__init__(self, "Least", left, right)

    def _as_text(self):
        return f"least({self.left}, {self.right})"

    def joined(self, left, right, modulus):
        """The value of two values."""
        return min(left, right)

    def _of_parts(self, parts):
        return Least(parts[0], parts[1])


class Most(Pair):
    """The greater one of two formulas."""

    def __init__(self, left, right):
        Pair.__init__(self, "Most", left, right)

    def _as_text(self):
        return f"most({self.left}, {self.right})"

    def joined(self, left, right, modulus):
        """The value of two values."""
        return max(left, right)

    def _of_parts(self, parts):
        return Most(parts[0], parts[1])


class Same(Pair):
    """Whether two formulas are equal: 1 or 0."""

    def __init__(self, left, right):
        Pair.__init__(self, "Same", left, right)

    def _as_text(self):
        return f"({self.left} = {self.right})"

    def joined(self, left, right, modulus):
        """The value of two values."""
        return 1 if left == right else 0

    def _of_parts(self, parts):
        return Same(parts[0], parts[1])


class Choice(Formula):
    """One of two formulas, chosen by the value of a test."""

    def __init__(self, test, chosen, then, other):
        _check_formula(test)
        if not is_chosen(chosen):
            raise InvalidChosen(chosen)
        _check_formula(then)
        _check_formula(other)
        listed = tuple(chosen)
        Formula.__init__(self, "Choice", (test, listed, then, other), (test, then, other))
        self.test = test
        self.chosen = listed
        self.then = then
        self.other = other

    def _as_text(self):
        listed = ", ".join([str(number) for number in self.chosen])
        return f"if {self.test} in {{{listed}}} then {self.then} else {self.other}"

    def _fits_itself(self, modulus, columns):
        # They ascend, so the last one is the greatest.
        return not self.chosen or self.chosen[-1] < modulus

    def _worth(self, number, around):
        test = self.test._worth(number + 1, around)
        if test is None:
            return None
        behind = number + 1 + self.test._many
        if test in self.chosen:
            return self.then._worth(behind, around)
        return self.other._worth(behind + self.then._many, around)

    def _of_parts(self, parts):
        return Choice(parts[0], self.chosen, parts[1], parts[2])


def _check_formula(value):
    if not isinstance(value, Formula):
        raise InvalidFormula(value)


def _pair(sign, left, right):
    """The formula of two parts with this sign or word."""
    if sign == "+":
        return Plus(left, right)
    if sign == "=":
        return Same(left, right)
    if sign == "least":
        return Least(left, right)
    return Most(left, right)


def _leaf(word, told):
    """The number, or the reference of this word."""
    if word == "here":
        return Here(told)
    if word == "up":
        return Up(told)
    if word == "down":
        return Down(told)
    return Number(told)


def _built(pieces):
    """The formula of the pieces of a text, in which each node stands behind its parts."""
    made = []
    for word, told in pieces:
        if word in ("number", "here", "up", "down"):
            made.append(_leaf(word, told))
        elif word == "if":
            other, then, test = made.pop(), made.pop(), made.pop()
            made.append(Choice(test, told, then, other))
        else:
            right, left = made.pop(), made.pop()
            made.append(_pair(word, left, right))
    return made[0]
