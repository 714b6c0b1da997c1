"""The formulas of a sheet, made ready to be worked out for many cells.

The cells of rows stand in one list, row by row, EMPTY for a cell that has none. Then a reference leads always the
same number of cells on, and a formula is a plain function of the list and the position of its own cell: it returns
the value, or a number below 0 that tells how far on its need stands (Works.needed).
"""

from belowneeds.formulas import Choice, Number, Reference

EMPTY = -1
STEPS = {"up": -1, "here": 0, "down": 1}


class Works:
    """What the formulas of a sheet work out, and what they look at, by kinds and numbers of columns."""

    def __init__(self, sheet):
        self.heads = sheet.columns
        self.width = len(self.heads)
        self.numbers = {column: number for number, column in enumerate(self.heads)}
        top = sheet.top()
        self.top_cells = [top[column] for column in self.heads]
        self._modulus = sheet.modulus
        # For each kind, the list of the formulas in the sequence of the columns.
        self.formulas = {kind: sheet.formulas_of(kind) for kind in sheet.kinds()}
        # These are made for a kind when it is asked for.
        self._worths = {}
        self._sights = {}

    def plain_of(self, kind):
        """For each column the tuple of Ways.told_by_one, or None if a cell of the kind looks at more."""
        columns = self._columns_of(kind)
        looked_at = []
        for _, formula in columns:
            found = looked_at_beside(formula)
            if found is None:
                return None
            looked_at.append(found)
        return [ways.told_by_one(formula, found) for (ways, formula), found in zip(columns, looked_at)]

    def worths_of(self, kind):
        """The list of the functions that tell the value of a cell or, by a number below 0, its need."""
        if kind not in self._worths:
            self._worths[kind] = [ways.worth_of(formula) for ways, formula in self._columns_of(kind)]
        return self._worths[kind]

    def sights_of(self, kind):
        """The list of the functions that tell how far on lies what a cell with a value looks at."""
        if kind not in self._sights:
            self._sights[kind] = [ways.sight_of(formula) for ways, formula in self._columns_of(kind)]
        return self._sights[kind]

    def needed(self, at, told):
        """The position of the need of the formula of the cell at this position, which told a number below 0."""
        return at + told + 2 * self.width

    def row_told(self, cells):
        """A dict from the columns, in sequence, to the values of these cells, or None."""
        return {column: None if value < 0 else value for column, value in zip(self.heads, cells)}

    def _columns_of(self, kind):
        """For each column of a kind, a tuple of the ways from there and the formula."""
        formulas = self.formulas[kind]
        return [(Ways(self.numbers, number, self._modulus), formula) for number, formula in enumerate(formulas)]


class Ways:
    """How far on the references of a formula lead, from the cell of a column."""

    def __init__(self, numbers, number, modulus):
        """The numbers of the columns, that of the column of the formula, and the modulus."""
        self._numbers = numbers
        self._own = number
        self._modulus = modulus

    def worth_of(self, formula):
        """A function of cells and a position: the value, or a number below 0 for the need."""
        if isinstance(formula, Reference):
            way = self._way(formula)
            return _reference(way, way - 2 * len(self._numbers))
        if isinstance(formula, Number):
            return _number(formula.value)
        if isinstance(formula, Choice):
            then, other = self.worth_of(formula.then), self.worth_of(formula.other)
            return _choice(self.worth_of(formula.test), formula.chosen, then, other)
        return self._worth_of_pair(formula)

    def told_by_one(self, formula, looked_at):
        """A tuple (position, told) for a formula that looks at one cell beside its row at most, in a list.

        The position is that of the cell in the row above, or, below 0, from the end of the row below; told is a list
        of what comes of each value there, and at its end of none.
        """
        values = [*list(range(self._modulus)), EMPTY]
        width = len(self._numbers)
        work = self.worth_of(formula)
        cells = [EMPTY for _ in range(3 * width)]
        if not looked_at:
            worth = work(cells, width)
            return 0, [worth for _ in values]
        column, where = looked_at[0].column, looked_at[0].where
        position = self._numbers[column] - (width if where == "down" else 0)
        if isinstance(formula, Reference):
            return position, values
        told = []
        for value in values:
            cells[position] = value
            told.append(max(EMPTY, work(cells, width + self._own)))
        return position, told

    def sight_of(self, formula):
        """A function of cells and a position, for a formula that has a value: how far on lies what it looks at."""
        if isinstance(formula, Choice):
            then, other = self.sight_of(formula.then), self.sight_of(formula.other)
            return _choice_sight(self.worth_of(formula.test), formula.chosen, self.sight_of(formula.test), then, other)
        found = [node for _, node in formula.nodes()]
        if any([isinstance(node, Choice) for node in found]):
            return _pair_sight(self.sight_of(formula.left), self.sight_of(formula.right))
        return _steady(tuple([self._way(node) for node in found if isinstance(node, Reference)]))

    def _worth_of_pair(self, formula):
        left, right = formula.left, formula.right
        # A part is often a number, and the other one a reference: then no further function needs to be called.
        if isinstance(right, Number):
            told = [formula.joined(value, right.value, self._modulus) for value in range(self._modulus)]
            return self._mapped(left, told)
        if isinstance(left, Number):
            told = [formula.joined(left.value, value, self._modulus) for value in range(self._modulus)]
            return self._mapped(right, told)
        return _pair(self.worth_of(left), self.worth_of(right), formula, self._modulus)

    def _mapped(self, formula, told):
        """The work of a pair, one part of which is a number: what is told for each value of the other part."""
        if isinstance(formula, Reference):
            way = self._way(formula)
            return _mapped_reference(way, way - 2 * len(self._numbers), told)
        return _mapped(self.worth_of(formula), told)

    def _way(self, reference):
        """How many cells further on the cell stands to which the reference leads; always less than two rows."""
        return STEPS[reference.where] * len(self._numbers) + self._numbers[reference.column] - self._own


def looked_at_beside(formula):
    """A list of the one reference at most, to the row above or below, of a formula; None if it has others."""
    if isinstance(formula, Reference):
        return None if formula.where == "here" else [formula]
    found = []
    for _, node in formula.nodes():
        if isinstance(node, Reference) and node not in found:
            found.append(node)
    return None if len(found) > 1 or (found and found[0].where == "here") else found


def _number(value):
    return lambda cells, at: value


def _reference(way, need):
    def work(cells, at):
        value = cells[at + way]
        return need if value < 0 else value

    return work


def _mapped_reference(way, need, told):
    def work(cells, at):
        value = cells[at + way]
        return need if value < 0 else told[value]

    return work


def _mapped(part, told):
    def work(cells, at):
        value = part(cells, at)
        return value if value < 0 else told[value]

    return work


def _pair(left_work, right_work, formula, modulus):
    def work(cells, at):
        left = left_work(cells, at)
        if left < 0:
            return left
        right = right_work(cells, at)
        return right if right < 0 else formula.joined(left, right, modulus)

    return work


def _choice(test_work, chosen, then, other):
    def work(cells, at):
        test = test_work(cells, at)
        if test < 0:
            return test
        return then(cells, at) if test in chosen else other(cells, at)

    return work


def _steady(ways):
    return lambda cells, at: ways


def _pair_sight(left, right):
    return lambda cells, at: left(cells, at) + right(cells, at)


def _choice_sight(test_work, chosen, test, then, other):
    def sight(cells, at):
        taken = then if test_work(cells, at) in chosen else other
        return test(cells, at) + taken(cells, at)

    return sight


def works_of(sheet):
    """The works of a sheet, which are made once."""
    if "works" not in sheet.kept:
        sheet.kept["works"] = Works(sheet)
    return sheet.kept["works"]
