"""Formulas [12]: their parts and texts, and how they are worked out [13]."""

from belowneeds.checks import GREATEST_NUMBER, MAX_DEPTH, MAX_NODES
from belowneeds.checks import is_between, is_chosen, is_integer, is_name, is_where
from belowneeds.errors import InvalidChosen, InvalidFormula, InvalidName, InvalidNumber
from belowneeds.errors import InvalidPosition, InvalidText, InvalidWhere, TooMany
from belowneeds.reading import FormulaText
from belowneeds.surroundings import Surroundings


class Formula:
    """The base class of all formulas. It is not created itself."""

    def __init__(self, text, given):
        """Settles what all formulas have, of the text and of what the constructor was given."""
        self._text = text
        self._parts = tuple([part for part in given if isinstance(part, Formula)])
        self._inner = tuple([node for part in self._parts for node in [part, *part._inner]])
        self._depth = 1 + max([part.depth for part in self._parts], default=-1)
        name = self.__class__.__name__
        told = ", ".join([repr(part) for part in given])
        self._code = f"{name}({told})"
        if len(self) > MAX_NODES:
            raise TooMany("nodes", MAX_NODES)
        if self._depth > MAX_DEPTH:
            raise TooMany("depth", MAX_DEPTH)

    @staticmethod
    def read(text):
        """The formula with this text."""
        if not isinstance(text, str):
            raise InvalidText(None)
        return _built(FormulaText(text).pieces())

    @property
    def depth(self):
        """The depth [14]."""
        return self._depth

    def nodes(self):
        """Yields the tuples (number, node), a formula ahead of its parts, these from left to right."""
        for number, node in enumerate(self._every()):
            yield (number, node)

    def columns_read(self, where):
        """The sorted list of the columns of the references of this sort."""
        if not is_where(where):
            raise InvalidWhere(where)
        references = [node for node in self._every() if isinstance(node, Reference)]
        return sorted({node.column for node in references if node.where == where})

    def put(self, number, formula):
        """The formula with another formula in the place of the node with this number."""
        if not is_between(number, 0, len(self) - 1):
            raise InvalidPosition(number)
        _check_formula(formula)
        old = self._every()[number]
        # Asked of the whole here, as a part that becomes too deep would be refused first.
        if len(self) - len(old) + len(formula) > MAX_NODES:
            raise TooMany("nodes", MAX_NODES)
        return self._with_node(number, formula)

    def fits(self, modulus, columns):
        """Whether all numbers are less than the modulus, and all columns are in the list."""
        every = self._every()
        numbers = [number for node in every for number in node._numbers()]
        names = [node.column for node in every if isinstance(node, Reference)]
        return all([number < modulus for number in numbers]) and all([name in columns for name in names])

    def work_out(self, modulus, above, own, below):
        """The value or None."""
        return self._worth(0, Surroundings(modulus, above, own, below))

    def need(self, modulus, above, own, below):
        """The need as a tuple (where, column), or None."""
        around = Surroundings(modulus, above, own, below)
        if self._worth(0, around) is not None:
            return None
        _, where, column = around.looks()[-1]
        return (where, column)

    def met(self, modulus, above, own, below):
        """The tuples (number, where, column) of the references that are worked out, in sequence."""
        around = Surroundings(modulus, above, own, below)
        self._worth(0, around)
        return around.looks()

    def __len__(self):
        return len(self._every())

    def __add__(self, other):
        if is_integer(other):
            return Plus(self, Number(other))
        return Plus(self, other)

    def __eq__(self, other):
        # A text tells the classes and all parts.
        return isinstance(other, Formula) and self._text == other._text

    def __str__(self):
        return str(self._text)

    def __repr__(self):
        return str(self._code)

    def _every(self):
        """The nodes in sequence."""
        return [self, *self._inner]

    def _numbers(self):
        """The numbers that stand in this node itself."""
        return ()

    def _with_node(self, number, formula):
        if number == 0:
            return formula
        parts = []
        first = 1
        for part in self._parts:
            inside = first <= number < first + len(part)
            parts.append(part._with_node(number - first, formula) if inside else part)
            first = first + len(part)
        return self._of_parts(parts)


class Number(Formula):
    """A number, which is its own value."""

    def __init__(self, value):
        if not is_between(value, 0, GREATEST_NUMBER):
            raise InvalidNumber(value)
        super().__init__(str(value), (value,))
        self._value = value

    @property
    def value(self):
        """The number."""
        return self._value

    def _numbers(self):
        return (self._value,)

    def _worth(self, _, around):
        return self._value


class Reference(Formula):
    """The cell of a column in the same row, in the row above or in the row below."""

    def __init__(self, where, column):
        if not is_name(column):
            raise InvalidName(column)
        super().__init__(f"{where} {column}", (column,))
        self._where = where
        self._column = column

    @property
    def where(self):
        """The word for the row: here, up or down."""
        return self._where

    def _worth(self, number, around):
        return around.look(number, self._where, self._column)


class Here(Reference):
    """The cell of a column in the same row."""

    def __init__(self, column):
        super().__init__("here", column)

    @property
    def column(self):
        return self._column


class Up(Reference):
    """The cell of a column in the row above."""

    def __init__(self, column):
        super().__init__("up", column)

    @property
    def column(self):
        return self._column


class Down(Reference):
    """The cell of a column in the row below."""

    def __init__(self, column):
        super().__init__("down", column)

    @property
    def column(self):
        return self._column


class Pair(Formula):
    """A formula with a left and a right part, which are always worked out both."""

    def __init__(self, sign, left, right):
        _check_formula(left)
        _check_formula(right)
        called = sign in ("least", "most")
        text = f"{sign}({left}, {right})" if called else f"({left} {sign} {right})"
        super().__init__(text, (left, right))
        self._sign = sign
        self._left = left
        self._right = right

    def _worth(self, number, around):
        left = self._left._worth(number + 1, around)
        if left is None:
            return None
        right = self._right._worth(number + 1 + len(self._left), around)
        if right is None:
            return None
        return self._joined(left, right, around)

    def _of_parts(self, parts):
        return _pair(self._sign, parts[0], parts[1])


class Plus(Pair):
    """The sum of two formulas."""

    def __init__(self, left, right):
        super().__init__("+", left, right)

    @property
    def left(self):
        return self._left

    @property
    def right(self):
        return self._right

    def _joined(self, left, right, around):
        return around.as_value(left + right)


class Least(Pair):
    """The lesser one of two formulas."""

    def __init__(self, left, right):
        super().__init__("least", left, right)

    @property
    def left(self):
        return self._left

    @property
    def right(self):
        return self._right

    def _joined(self, left, right, _):
        return min(left, right)


class Most(Pair):
    """The greater one of two formulas."""

    def __init__(self, left, right):
        super().__init__("most", left, right)

    @property
    def left(self):
        return self._left

    @property
    def right(self):
        return self._right

    def _joined(self, left, right, _):
        return max(left, right)


class Same(Pair):
    """Whether two formulas are equal: 1 or 0."""

    def __init__(self, left, right):
        super().__init__("=", left, right)

    @property
    def left(self):
        return self._left

    @property
    def right(self):
        return self._right

    def _joined(self, left, right, _):
        return 1 if left == right else 0


class Choice(Formula):
    """One of two formulas, chosen by the value of a test."""

    def __init__(self, test, chosen, then, other):
        _check_formula(test)
        if not is_chosen(chosen):
            raise InvalidChosen(chosen)
        _check_formula(then)
        _check_formula(other)
        listed = "{" + ", ".join([str(number) for number in chosen]) + "}"
        super().__init__(f"if {test} in {listed} then {then} else {other}", (test, tuple(chosen), then, other))
        self._test = test
        self._chosen = tuple(chosen)
        self._then = then
        self._other = other

    @property
    def test(self):
        """The part whose value decides."""
        return self._test

    @property
    def chosen(self):
        """The tuple of the listed numbers."""
        return self._chosen

    @property
    def then(self):
        """The part that is worked out for a listed number."""
        return self._then

    @property
    def other(self):
        """The part that is worked out for any other number."""
        return self._other

    def _numbers(self):
        return self._chosen

    def _worth(self, number, around):
        test = self._test._worth(number + 1, around)
        if test is None:
            return None
        behind = number + 1 + len(self._test)
        if test in self._chosen:
            return self._then._worth(behind, around)
        return self._other._worth(behind + len(self._then), around)

    def _of_parts(self, parts):
        return Choice(parts[0], self._chosen, parts[1], parts[2])


def _check_formula(value):
    if not isinstance(value, Formula):
        raise InvalidFormula(value)


def _pair(sign, left, right):
    """The formula of two parts with this sign or word."""
    if sign == "+":
        return Plus(left, right)
    if sign == "=":
        return Same(left, right)
    if sign == "least":
        return Least(left, right)
    return Most(left, right)


def _leaf(word, told):
    """The number, or the reference of this word."""
    if word == "here":
        return Here(told)
    if word == "up":
        return Up(told)
    if word == "down":
        return Down(told)
    return Number(told)


def _built(pieces):
    """The formula of the pieces of a text, in which each node stands behind its parts."""
    made = []
    for word, told in pieces:
        if word in ("number", "here", "up", "down"):
            made.append(_leaf(word, told))
        elif word == "if":
            other, then, test = made.pop(), made.pop(), made.pop()
            made.append(Choice(test, told, then, other))
        else:
            right, left = made.pop(), made.pop()
            made.append(_pair(word, left, right))
    return made[0]
