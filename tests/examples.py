"""What several tests use: sheets, values of other kinds, and plain models to compare with."""

import itertools
import random
import unittest

from belowneeds.fills import Fill
from belowneeds.formulas import Choice, Down, Formula, Here, Least, Most, Number, Plus, Same, Up
from belowneeds.sheets import Sheet

# Values that are never an integer, a name, a formula, a row of a dict ..
ODD_VALUES = (None, True, False, "", b"a", (), [], {}, [1], {"a": 1}, (1, 2), "if", "A", "1", object())


class EqualToAll:
    """An object that says that it is equal to every value."""

    def __eq__(self, other):
        return True

    def __hash__(self):
        return hash("n")


TOTAL = Formula.read("(up u + here n)")
END = {"n": Number(0), "u": TOTAL}
ITEM = {"n": Down("n") + 1, "u": TOTAL}
BLOCKS_TEXT = """modulus 2
columns n u
top 0 0
kind end
0
(up u + here n)
kind item
(down n + 1)
(up u + here n)
plan end 0 item 1
plan end 0 item 2
plan end 0
"""
PLAN = [{"item": 1, "end": 0}, {"item": 2, "end": 0}, {"end": 0}]


class CheckedCase(unittest.TestCase):
    def check(self, error, kind, /, **attributes):
        """The error is of this class, and has just these attributes, with values of the same kinds."""
        self.assertIs(type(error), kind)
        self.assertEqual(parts_of(error), attributes)
        for name, value in attributes.items():
            self.assertIs(type(getattr(error, name)), type(value))


def blocks():
    return Sheet(2, ["n", "u"], {"n": 0, "u": 0}, {"end": END, "item": ITEM}, PLAN)


def free_blocks():
    return Sheet.free(2, ["n", "u"], {"n": 0, "u": 0}, end=END, item=ITEM)


def peek():
    a, b = {"c": Number(0), "p": Down("c")}, {"c": Number(1), "p": Down("c")}
    return Sheet.free(2, ["c", "p"], {"c": 0, "p": 0}, a=a, b=b)


def caught(call, *values, **named):
    """The error that a call raises."""
    try:
        call(*values, **named)
    except Exception as error:
        return error
    raise AssertionError(f"no error of {call} with {values} and {named}")


def parts_of(error):
    """The attributes of an error, by name."""
    return dict(vars(error))


def depth_of(levels):
    """A formula of this depth, with one reference more for each level."""
    formula = Up("u")
    for _ in range(levels):
        formula = Plus(formula, Here("n"))
    return formula


def wide(many):
    """A formula with this many nodes, an odd number, as flat as can be."""
    parts = [Number(1) for _ in range((many + 1) // 2)]
    while len(parts) > 1:
        pairs = [Plus(left, right) for left, right in zip(parts[::2], parts[1::2])]
        parts = pairs + parts[2 * len(pairs):]
    return parts[0]


def random_formula(rnd, depth, columns, modulus):
    """A formula that fits."""
    kind = rnd.randrange(8) if depth else rnd.randrange(3)
    if kind == 0:
        return Number(rnd.randrange(modulus))
    if kind <= 2:
        return rnd.choice([Here, Up, Down])(rnd.choice(columns))
    parts = [random_formula(rnd, rnd.randrange(depth), columns, modulus) for _ in range(3)]
    if kind == 7:
        chosen = [number for number in range(modulus) if rnd.randrange(2)]
        return Choice(parts[0], chosen, parts[1], parts[2])
    return (Plus, Least, Most, Same)[kind - 3](parts[0], parts[1])


def random_sheet(seed):
    rnd = random.Random(seed)
    modulus = rnd.randrange(2, 5)
    columns = ["a", "b", "c"][:rnd.randrange(1, 4)]
    kinds = {
        kind: {column: random_formula(rnd, 2, columns, modulus) for column in columns}
        for kind in ["x", "y", "z"][:rnd.randrange(1, 4)]
    }
    top = {column: rnd.randrange(modulus) for column in columns}
    return Sheet(modulus, columns, top, kinds)


def sheet_of_tables(many):
    """A sheet with so many tables, at most 730: the blank one, and one for each number from 0 to the last one.

    A row x adds 1 to the number of three digits that the row below it shows, and shows 0 above the last one.
    """
    is_last, carry = Number(1), Number(1)
    kinds = {"e": dict.fromkeys("abc", Number(0)), "x": {}}
    for at, name in enumerate("abc"):
        is_last = Choice(Down(name), ((many - 2) // 9 ** at % 9,), is_last, Number(0))
    for name in "abc":
        kinds["x"][name] = Choice(is_last, (1,), Number(0), Plus(Down(name), carry))
        carry = Choice(Down(name), (8,), carry, Number(0))
    return Sheet(9, list("abc"), dict.fromkeys("abc", 0), kinds)


class NoValue(Exception):
    """Working out stopped at this tuple (where, column)."""


def model_value(formula, modulus, rows):
    """Works a formula out as [13] says; rows is a dict from where to dicts. Raises NoValue with the need."""
    if isinstance(formula, Number):
        return formula.value
    if isinstance(formula, (Here, Up, Down)):
        value = rows[formula.where].get(formula.column)
        if value is None:
            raise NoValue((formula.where, formula.column))
        return value
    if isinstance(formula, Choice):
        listed = model_value(formula.test, modulus, rows) in formula.chosen
        return model_value(formula.then if listed else formula.other, modulus, rows)
    left = model_value(formula.left, modulus, rows)
    right = model_value(formula.right, modulus, rows)
    if isinstance(formula, Plus):
        return (left + right) % modulus
    if isinstance(formula, Same):
        return int(left == right)
    return min(left, right) if isinstance(formula, Least) else max(left, right)


def model_cut(sheet, word, foot=None, top=None):
    """The rows of a cut and the number of rounds that change something, by rounds as [31] says."""
    columns = sheet.columns
    rows = [top or sheet.top()] + [dict.fromkeys(columns) for _ in word] + [foot or {}]
    rounds = 0
    while True:
        before = [dict(row) for row in rows]
        for at, kind in enumerate(word, start=1):
            around = {"up": before[at - 1], "here": before[at], "down": before[at + 1]}
            for column in columns:
                if before[at][column] is None:
                    try:
                        rows[at][column] = model_value(sheet.formula(kind, column), sheet.modulus, around)
                    except NoValue:
                        pass
        if rows == before:
            return rows[1:-1], rounds
        rounds += 1


def model_aboves(sheet):
    """The aboves of a sheet as tuples, in sequence [41]."""
    return list(itertools.product([None, *range(sheet.modulus)], repeat=len(sheet.reads("up"))))


def model_table(sheet, word, foot=None):
    """The table of a word: what its first row shows under each above, by the cut of the whole word."""
    rows = []
    for above in model_aboves(sheet):
        # A top that is no sheet's: a column that is not read by `up` stands for none here.
        top = {**dict.fromkeys(sheet.columns), **dict(zip(sheet.reads("up"), above))}
        row = model_cut(sheet, word, foot, top)[0][0] if word else foot or dict.fromkeys(sheet.columns)
        rows.append(tuple(row[column] for column in sheet.reads("down")))
    return tuple(rows)


def words_from(sheet, most, place=0):
    """All words of at most so many kinds that are allowed from a place."""
    found, last = [[]], [([], place)]
    for _ in range(most):
        last = [([*word, kind], other) for word, at in last for kind, other in sheet.plan()[at].items()]
        found.extend(word for word, _ in last)
    return found


def none_first(value):
    """A key to sort by: None counts as less than all integers [2]."""
    if isinstance(value, tuple):
        return tuple(none_first(part) for part in value)
    return -1 if value is None else value


def planned_sheet(seed):
    """A sheet with several kinds and places, that is mostly not full."""
    rnd = random.Random(seed)
    sheet = random_sheet(seed)
    kinds = {kind: {column: sheet.formula(kind, column) for column in sheet.columns} for kind in sheet.kinds()}
    many = rnd.randrange(1, 4)
    # Each place leads to the next one, so each can be reached.
    plan = [{kind: rnd.randrange(many) for kind in kinds if rnd.randrange(3)} for _ in range(many)]
    for place, leads in enumerate(plan):
        leads[rnd.choice(sheet.kinds())] = (place + 1) % many
    return Sheet(min(sheet.modulus, 3), sheet.columns, dict.fromkeys(sheet.columns, 0), _with_numbers(kinds), plan)


def _with_numbers(kinds):
    """The same kinds, without a number above 2."""
    return {kind: {column: _lowered(formula) for column, formula in row.items()} for kind, row in kinds.items()}


def _lowered(formula):
    for number, node in formula.nodes():
        if isinstance(node, Number) and node.value > 2:
            return _lowered(formula.put(number, Number(2)))
        if isinstance(node, Choice) and node.chosen and node.chosen[-1] > 2:
            chosen = tuple(told for told in node.chosen if told < 3)
            return _lowered(formula.put(number, Choice(node.test, chosen, node.then, node.other)))
    return formula


PLANS = (
    [{"x": 1, "e": 0}, {"x": 2, "e": 0}, {"e": 0}], [{"x": 1, "e": 0}, {"e": 0}],
    [{"x": 1, "e": 0}, {"x": 2, "e": 1}, {"e": 1}], [{"x": 1, "e": 2}, {"e": 0}, {"x": 1}], [{"e": 1, "x": 1}, {"e": 2, "x": 2}, {"e": 0}],
)


def levelled_formula(rnd, depth, modulus, references):
    """A formula with these references only."""
    kind = rnd.randrange(8) if depth else rnd.randrange(3)
    if kind == 0 or not references:
        return Number(rnd.randrange(modulus))
    if kind <= 2:
        return rnd.choice(references)
    parts = [levelled_formula(rnd, rnd.randrange(depth), modulus, references) for _ in range(3)]
    if kind == 7:
        return Choice(parts[0], [number for number in range(modulus) if rnd.randrange(2)], parts[1], parts[2])
    return (Plus, Least, Most, Same)[kind - 3](parts[0], parts[1])


def late_sheet(seed):
    """A sheet whose rows x may need the rows below, and are followed by a row e soon: many columns are full."""
    rnd = random.Random(seed)
    modulus = rnd.choice([2, 2, 3])
    columns = ["a", "b", "c"][:rnd.randrange(1, 4)]
    kinds = {"e": {}, "x": {}}
    for position, column in enumerate(columns):
        beside = [Up(columns[0]), *[Here(other) for other in columns[:position]]]
        kinds["e"][column] = levelled_formula(rnd, 2, modulus, beside)
        kinds["x"][column] = levelled_formula(rnd, 2, modulus, beside + [Down(other) for other in columns])
    top = {column: rnd.randrange(modulus) for column in columns}
    return Sheet(modulus, columns, top, kinds, rnd.choice(PLANS))


def random_fill(sheet, rnd):
    """An allowed fill."""
    plan, place, kinds, places = sheet.plan(), 0, [], []
    for _ in range(rnd.randrange(1, 9)):
        places.append(place)
        kinds.append(rnd.choice(sorted(plan[place])))
        place = plan[place][kinds[-1]]
    while place not in places:
        places.append(place)
        kinds.append(rnd.choice(sorted(plan[place])))
        place = plan[place][kinds[-1]]
    begin = rnd.choice([at for at, other in enumerate(places) if other == place])
    return Fill(kinds[:begin], kinds[begin:])


def wide_sheet():
    """A sheet with more than 100 aboves."""
    row = {column: Up(column) for column in "abcde"}
    return Sheet(2, list("abcde"), dict.fromkeys("abcde", 0), {"x": row})


def slow_counter(first, place):
    """A full sheet with the delay 242, which is needed first in a word of 480 + place - 3 * first kinds.

    Each third row, of the kind of this place, t and s count up to 80, from this number on; n waits for 80.
    """
    return _counting(place, {"t": first % 9, "s": first // 9, "n": 0}, {"n": Down("n")}, {"n": Number(1)})


def long_walk():
    """A sheet in which z is open from row 1 on: its walk has three cells in each row, and the period is 243."""
    walk = {"w": Here("v"), "v": Down("z"), "z": Here("w")}
    return _counting(2, dict.fromkeys("tswvz", 0), walk, walk)


def _counting(place, top, still, done):
    """A sheet in which t and s count each third row; these formulas stand in all rows, and those where it is 80."""
    is_done = Same(Choice(Here("t"), (8,), Here("s"), Number(0)), Number(8))
    stays = {"t": Up("t"), "s": Up("s"), **still}
    counts = {"t": Up("t") + 1, "s": Choice(Up("t"), (8,), Up("s") + 1, Up("s"))}
    counts.update({column: Choice(is_done, (1,), done[column], still[column]) for column in still})
    kinds = {kind: counts if at == place else stays for at, kind in enumerate("pqr")}
    return Sheet(9, list(top), top, kinds, [{"p": 1}, {"q": 2}, {"r": 0}])
