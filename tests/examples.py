"""What several tests use: sheets, values of other kinds, and plain models to compare with."""

import random

from belowneeds.formulas import Choice, Down, Formula, Here, Least, Most, Number, Plus, Same, Up
from belowneeds.sheets import Sheet

# Values that are never an integer, a name, a formula, a row of a dict ..
ODD_VALUES = (None, True, False, "", b"a", (), [], {}, [1], {"a": 1}, (1, 2), "if", "A", "1", object())

TOTAL = Formula.read("(up u + here n)")
END = {"n": Number(0), "u": TOTAL}
ITEM = {"n": Down("n") + 1, "u": TOTAL}
PLAN = [{"item": 1, "end": 0}, {"item": 2, "end": 0}, {"end": 0}]


def blocks():
    return Sheet(2, ["n", "u"], {"n": 0, "u": 0}, {"end": END, "item": ITEM}, PLAN)


def free_blocks():
    return Sheet.free(2, ["n", "u"], {"n": 0, "u": 0}, end=END, item=ITEM)


def peek():
    a, b = {"c": Number(0), "p": Down("c")}, {"c": Number(1), "p": Down("c")}
    return Sheet.free(2, ["c", "p"], {"c": 0, "p": 0}, a=a, b=b)


def caught(call, *values, **named):
    """The error that a call raises."""
    try:
        call(*values, **named)
    except Exception as error:
        return error
    raise AssertionError(f"no error of {call} with {values} and {named}")


def parts_of(error):
    """The attributes of an error, by name."""
    return dict(vars(error))


def depth_of(levels):
    """A formula of this depth, with one reference more for each level."""
    formula = Up("u")
    for _ in range(levels):
        formula = Plus(formula, Here("n"))
    return formula


def wide(many):
    """A formula with this many nodes, an odd number, as flat as can be."""
    parts = [Number(1) for _ in range((many + 1) // 2)]
    while len(parts) > 1:
        pairs = [Plus(left, right) for left, right in zip(parts[::2], parts[1::2])]
        parts = pairs + parts[2 * len(pairs):]
    return parts[0]


def random_formula(rnd, depth, columns, modulus):
    """A formula that fits."""
    kind = rnd.randrange(8) if depth else rnd.randrange(3)
    if kind == 0:
        return Number(rnd.randrange(modulus))
    if kind <= 2:
        return rnd.choice([Here, Up, Down])(rnd.choice(columns))
    parts = [random_formula(rnd, rnd.randrange(depth), columns, modulus) for _ in range(3)]
    if kind == 7:
        chosen = [number for number in range(modulus) if rnd.randrange(2)]
        return Choice(parts[0], chosen, parts[1], parts[2])
    return (Plus, Least, Most, Same)[kind - 3](parts[0], parts[1])


def random_sheet(seed):
    rnd = random.Random(seed)
    modulus = rnd.randrange(2, 5)
    columns = ["a", "b", "c"][:rnd.randrange(1, 4)]
    kinds = {
        kind: {column: random_formula(rnd, 2, columns, modulus) for column in columns}
        for kind in ["x", "y", "z"][:rnd.randrange(1, 4)]
    }
    top = {column: rnd.randrange(modulus) for column in columns}
    return Sheet(modulus, columns, top, kinds)


class NoValue(Exception):
    """Working out stopped at this tuple (where, column)."""


def model_value(formula, modulus, rows):
    """Works a formula out as [13] says; rows is a dict from where to dicts. Raises NoValue with the need."""
    if isinstance(formula, Number):
        return formula.value
    if isinstance(formula, (Here, Up, Down)):
        value = rows[formula.where].get(formula.column)
        if value is None:
            raise NoValue((formula.where, formula.column))
        return value
    if isinstance(formula, Choice):
        listed = model_value(formula.test, modulus, rows) in formula.chosen
        return model_value(formula.then if listed else formula.other, modulus, rows)
    left = model_value(formula.left, modulus, rows)
    right = model_value(formula.right, modulus, rows)
    if isinstance(formula, Plus):
        return (left + right) % modulus
    if isinstance(formula, Same):
        return int(left == right)
    return min(left, right) if isinstance(formula, Least) else max(left, right)


def model_cut(sheet, word, foot=None):
    """The rows of a cut and the number of rounds that change something, by rounds as [31] says."""
    columns = sheet.columns
    rows = [sheet.top()] + [dict.fromkeys(columns) for _ in word] + [foot or {}]
    rounds = 0
    while True:
        before = [dict(row) for row in rows]
        for at, kind in enumerate(word, start=1):
            around = {"up": before[at - 1], "here": before[at], "down": before[at + 1]}
            for column in columns:
                if before[at][column] is None:
                    try:
                        rows[at][column] = model_value(sheet.formula(kind, column), sheet.modulus, around)
                    except NoValue:
                        pass
        if rows == before:
            return rows[1:-1], rounds
        rounds += 1
