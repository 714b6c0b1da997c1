"""Points [31] to [34]: cuts, with their rounds, walks, met cells and depths."""

import itertools
import random
import types
import unittest

from belowneeds.cuts import Cut
from belowneeds.errors import InvalidFoot, InvalidRow, InvalidWord, TooMany, UnknownColumn
from belowneeds.formulas import Choice, Down, Here, Number, Plus, Up
from belowneeds.sheets import Sheet
from examples import ODD_VALUES, CheckedCase, NoValue, blocks, caught, free_blocks, model_cut, model_value, random_sheet

WORD = ["item", "item", "end", "item"]


def rows_of(cut):
    return [cut.row_values(row) for row in range(1, len(cut) + 1)]


COLUMNS = list("abcdef")


def chain(last):
    """A sheet in which each cell of a row x needs the next one, and the last one of them the row below."""
    row = {column: Here(other) for column, other in zip(COLUMNS, COLUMNS[1:])}
    kinds = {"x": {**row, "f": Down("a")}, "e": {**row, "f": last}}
    return Sheet(2, COLUMNS, dict.fromkeys(COLUMNS, 0), kinds)


def random_cut(seed, foot_each):
    sheet = random_sheet(seed)
    rnd = random.Random(seed)
    word = [rnd.choice(sheet.kinds()) for _ in range(rnd.randrange(9))]
    foot = {column: rnd.randrange(sheet.modulus) for column in sheet.columns} if seed % foot_each == 0 else None
    return Cut(sheet, word, foot=foot)


def cells_of(cut):
    return [(row, column) for row in range(1, len(cut) + 1) for column in cut.sheet.columns]


def around(cut, row):
    """The rows around a row, by the words of references."""
    rows = [cut.sheet.top(), *rows_of(cut), cut.foot or {}]
    return {"up": rows[row - 1], "here": rows[row], "down": rows[row + 1]}


def moved(row, where, column):
    return (row + {"up": -1, "here": 0, "down": 1}[where], column)


def model_next(cut, row, column):
    formula = cut.sheet.formula(cut.word[row - 1], column)
    try:
        model_value(formula, cut.sheet.modulus, around(cut, row))
    except NoValue as error:
        return moved(row, *error.args[0])
    return None


def model_met(cut, cell):
    """All cells that can be reached by references that are worked out."""
    met = {cell}
    while True:
        more = set(met)
        for row, column in met:
            rows = around(cut, row)
            looks = cut.sheet.formula(cut.word[row - 1], column).met(cut.sheet.modulus, *rows.values())
            more.update(moved(row, where, other) for _, where, other in looks)
        more = {(row, column) for row, column in more if 1 <= row <= len(cut)}
        if more == met:
            return sorted(met)
        met = more


class CutTest(CheckedCase):
    def test_the_example_of_the_interface(self):
        cut = Cut(blocks(), WORD)
        self.assertEqual(rows_of(cut), [{"n": 0, "u": 0}, {"n": 1, "u": 1}, {"n": 0, "u": 1}, {"n": None, "u": None}])
        self.assertEqual(cut.rounds, 6)

    def test_parts(self):
        foot = {"u": 1, "n": 0}
        sheet = blocks()
        cut = Cut(sheet, WORD, foot=foot)
        foot["u"] = 0
        self.assertEqual([cut.sheet, cut.word, cut.foot, len(cut)], [sheet, tuple(WORD), {"n": 0, "u": 1}, 4])
        cut.foot.clear()
        self.assertEqual(cut.foot, {"n": 0, "u": 1})
        self.assertEqual(rows_of(cut)[3], {"n": 1, "u": 0})
        self.assertIsNone(Cut(word=(), sheet=sheet).foot)
        with self.assertRaises(TypeError):
            Cut(sheet, WORD, foot)

    def test_values_and_empty_cells(self):
        cut = Cut(blocks(), ["end", "item"])
        self.assertEqual([cut.value_at(1, "n"), cut.value_at(row=2, column="u"), cut.row_values(row=2)],
                         [0, None, {"n": None, "u": None}])
        cells = cut.empty_cells()
        self.assertIsInstance(cells, types.GeneratorType)
        self.assertEqual(list(cells), [(2, "n"), (2, "u")])
        self.assertEqual(list(Cut(blocks(), []).empty_cells()), [])
        cut.row_values(1)["n"] = 7
        self.assertEqual(cut.row_values(1), {"n": 0, "u": 0})

    def test_the_empty_word(self):
        cut = Cut(blocks(), [])
        self.assertEqual([len(cut), cut.word, cut.rounds], [0, (), 0])
        self.check(caught(cut.row_values, 1), InvalidRow, value=1)

    def test_wrong_words(self):
        for value in (None, "item", {"item": 0}, 1):
            self.check(caught(Cut, blocks(), value, foot=1), InvalidWord, position=None)
        self.check(caught(Cut, blocks(), ["item"] * 3, foot=1), InvalidWord, position=2)

    def test_wrong_feet(self):
        for value in (*[value for value in ODD_VALUES if value is not None], {"n": 0}, {"n": 0, "u": 0, "z": 0}):
            self.check(caught(Cut, blocks(), [], foot=value), InvalidFoot, column=None)
        for value in (None, True, -1, 2, "0"):
            self.check(caught(Cut, blocks(), [], foot={"n": 0, "u": value}), InvalidFoot, column="u")
        self.check(caught(Cut, blocks(), ["end"] * 401, foot={"u": 2, "n": 2}), InvalidFoot, column="n")

    def test_four_hundred_rows_and_one_more(self):
        self.assertEqual(len(Cut(blocks(), ["end"] * 400)), 400)
        self.check(caught(Cut, blocks(), ["end"] * 401), TooMany, what="rows", limit=400)

    def test_wrong_rows_and_columns(self):
        cut = Cut(blocks(), WORD)
        for value in (*ODD_VALUES, 0, -1, 5):
            for asked in (cut.value_at, cut.next_of, cut.walk, cut.cells_met, cut.depth_at):
                self.check(caught(asked, value, "z"), InvalidRow, value=value)
            self.check(caught(cut.row_values, value), InvalidRow, value=value)
        for value in (*ODD_VALUES, "z", "item"):
            for asked in (cut.value_at, cut.next_of, cut.walk, cut.cells_met, cut.depth_at):
                self.check(caught(asked, 1, value), UnknownColumn, value=value)
                self.check(caught(asked, row=4, column=value), UnknownColumn, value=value)

    def test_many_cuts_as_by_rounds(self):
        for seed in range(120):
            sheet = random_sheet(seed)
            rnd = random.Random(seed)
            word = [rnd.choice(sheet.kinds()) for _ in range(rnd.randrange(9))]
            foot = {column: rnd.randrange(sheet.modulus) for column in sheet.columns} if seed % 3 == 0 else None
            cut = Cut(sheet, word, foot=foot)
            self.assertEqual((rows_of(cut), cut.rounds), model_cut(sheet, word, foot), seed)
            self.assertEqual([list(row) for row in rows_of(cut)], [list(sheet.columns)] * len(word))
            empty = [(row, column) for row in range(1, len(cut) + 1) for column in sheet.columns
                     if cut.value_at(row, column) is None]
            self.assertEqual(list(cut.empty_cells()), empty)

    def test_a_longer_word_keeps_the_values(self):
        for sheet in (blocks(), free_blocks(), random_sheet(3), random_sheet(4)):
            for word in itertools.product(sheet.kinds(), repeat=4):
                if sheet.is_word(word):
                    for row, column in itertools.product((1, 2, 3), sheet.columns):
                        value = Cut(sheet, word[:3]).value_at(row, column)
                        self.assertIn(value, (None, Cut(sheet, word).value_at(row, column)))

    def test_a_long_chain_from_below(self):
        kinds = {"x": {"n": Down("n")}, "e": {"n": Number(1)}}
        cut = Cut(Sheet(2, ["n"], {"n": 0}, kinds), ["x"] * 399 + ["e"])
        self.assertEqual([cut.rounds, cut.value_at(1, "n"), list(cut.empty_cells())], [400, 1, []])

    def test_the_greatest_cut_is_worked_out(self):
        cut = Cut(chain(Number(1)), ["x"] * 399 + ["e"])
        self.assertEqual([cut.rounds, cut.value_at(1, "a"), list(cut.empty_cells())], [2400, 1, []])
        self.assertEqual([cut.cells_met(1, "a"), cut.depth_at(1, "a")], [cells_of(cut), 399])
        self.assertEqual([cut.cells_met(400, "e"), cut.depth_at(400, "e")], [[(400, "e"), (400, "f")], 0])
        self.assertEqual([cut.depth_at(row, "f") for row in (1, 2, 399)], [399, 398, 1])
        up = Sheet(2, ["n"], {"n": 1}, {"x": {"n": Up("n")}})
        cut = Cut(up, ["x"] * 400)
        self.assertEqual([len(cut.cells_met(400, "n")), cut.depth_at(400, "n"), cut.value_at(400, "n")], [400, 0, 1])


class NeedsTest(CheckedCase):
    def test_the_example_of_the_interface(self):
        cut = Cut(blocks(), WORD)
        self.assertEqual([cut.rounds, cut.depth_at(1, "n"), cut.cells_met(2, "u"), cut.walk(4, "u")],
                         [6, 2, [(1, "n"), (1, "u"), (2, "n"), (2, "u"), (3, "n")], ([(4, "u"), (4, "n")], None)])
        self.assertEqual([cut.next_of(4, "u"), cut.next_of(4, "n"), cut.next_of(row=3, column="n")],
                         [(4, "n"), (5, "n"), None])

    def test_a_cell_with_a_value(self):
        cut = Cut(blocks(), WORD)
        self.assertEqual([cut.next_of(1, "n"), cut.walk(1, "n"), cut.depth_at(3, "n"), cut.cells_met(3, "n")],
                         [None, ([], None), 0, [(3, "n")]])

    def test_a_cell_that_has_none(self):
        cut = Cut(blocks(), WORD)
        self.assertEqual([cut.cells_met(4, "n"), cut.depth_at(4, "n")], [[], None])

    def test_the_top_and_the_foot_are_no_cells(self):
        sheet = Sheet(2, ["n"], {"n": 1}, {"x": {"n": Plus(Up("n"), Down("n"))}, "u": {"n": Up("n")}})
        cut = Cut(sheet, ["u"], foot={"n": 1})
        self.assertEqual([cut.cells_met(1, "n"), cut.depth_at(1, "n")], [[(1, "n")], 0])
        cut = Cut(Sheet(2, ["n"], {"n": 1}, {"x": {"n": Down("n")}}), ["x", "x"], foot={"n": 1})
        self.assertEqual([cut.cells_met(1, "n"), cut.depth_at(1, "n"), cut.depth_at(2, "n")], [[(1, "n"), (2, "n")], 1, 0])

    def test_a_depth_counts_what_a_cell_above_looks_at(self):
        kinds = {"x": {"n": Down("n"), "u": Up("u")}, "y": {"n": Number(0), "u": Here("n")}}
        kinds["z"] = {"n": Down("n"), "u": Here("n")}
        sheet = Sheet(2, ["n", "u"], {"n": 0, "u": 0}, kinds)
        cut = Cut(sheet, ["z", "x", "x", "y"])
        self.assertEqual([cut.depth_at(row, "u") for row in (1, 2, 3, 4)], [3, 2, 1, 0])
        self.assertEqual(cut.cells_met(2, "u"), [(1, "n"), (1, "u"), (2, "n"), (2, "u"), (3, "n"), (4, "n")])

    def test_only_what_is_worked_out_is_met(self):
        choice = Choice(Here("b"), (1,), Down("b"), Number(1))
        sheet = Sheet(2, ["a", "b"], {"a": 0, "b": 0}, {"x": {"a": choice, "b": Number(0)}, "y": {"a": choice, "b": Number(1)}})
        cut = Cut(sheet, ["x", "y", "x"])
        self.assertEqual([cut.cells_met(1, "a"), cut.cells_met(2, "a")],
                         [[(1, "a"), (1, "b")], [(2, "a"), (2, "b"), (3, "b")]])
        self.assertEqual([cut.depth_at(1, "a"), cut.depth_at(2, "a")], [0, 1])

    def test_circles(self):
        kinds = {"x": {"a": Here("b"), "b": Plus(Number(0), Here("a"))}, "y": {"a": Up("b"), "b": Up("a")}}
        cut = Cut(Sheet(2, ["a", "b"], {"a": 0, "b": 0}, kinds), ["x", "y", "x"])
        self.assertEqual([cut.walk(1, "a"), cut.walk(2, "a")],
                         [([(1, "a"), (1, "b")], 0), ([(2, "a"), (1, "b"), (1, "a")], 1)])
        around_rows = {"d": {"a": Down("a")}, "u": {"a": Up("a")}}
        cut = Cut(Sheet(2, ["a"], {"a": 0}, around_rows), ["u", "d", "d", "u"])
        self.assertEqual([cut.walk(2, "a"), cut.walk(3, "a"), cut.value_at(1, "a")],
                         [([(2, "a"), (3, "a"), (4, "a")], 1), ([(3, "a"), (4, "a")], 0), 0])

    def test_a_walk_through_all_cells(self):
        sheet = chain(Here("a"))
        cut = Cut(sheet, ["x"] * 400)
        self.assertEqual(cut.walk(1, "a"), (cells_of(cut), None))
        self.assertEqual([cut.next_of(400, "f"), cut.walk(400, "f")], [(401, "a"), ([(400, "f")], None)])
        cut = Cut(sheet, ["x"] * 399 + ["e"])
        self.assertEqual(cut.walk(1, "a"), (cells_of(cut), 399 * 6))

    def test_a_word_without_kinds(self):
        cut = Cut(blocks(), [], foot={"n": 1, "u": 1})
        for asked in (cut.value_at, cut.next_of, cut.walk, cut.cells_met, cut.depth_at):
            self.check(caught(asked, 1, "n"), InvalidRow, value=1)
        self.assertEqual([len(cut), list(cut.empty_cells())], [0, []])

    def test_what_is_returned_is_new(self):
        cut = Cut(blocks(), WORD)
        for _ in range(2):
            cells, back = cut.walk(4, "u")
            met = cut.cells_met(2, "u")
            self.assertEqual([cells, back, len(met)], [[(4, "u"), (4, "n")], None, 5])
            cells.clear()
            met.clear()

    def test_many_nexts_and_walks(self):
        for seed in range(150):
            cut = random_cut(seed, 3)
            nexts = {cell: model_next(cut, *cell) for cell in cells_of(cut)}
            for cell in cells_of(cut):
                self.assertEqual(cut.next_of(*cell), nexts[cell])
                walk, at = [], cell
                while nexts.get(at) is not None and at not in walk:
                    walk.append(at)
                    at = nexts[at]
                back = walk.index(at) if at in walk else None
                self.assertEqual(cut.walk(*cell), (walk, back), (seed, cell))
                if walk and back is None:
                    self.assertEqual(at[0], len(cut) + 1)
                    self.assertIsNone(cut.foot)

    def test_many_met_cells_and_depths(self):
        for seed in range(150):
            cut = random_cut(seed, 4)
            for cell in reversed(cells_of(cut)):
                if cut.value_at(*cell) is None:
                    self.assertEqual((cut.cells_met(*cell), cut.depth_at(*cell)), ([], None))
                else:
                    met = model_met(cut, cell)
                    self.assertEqual(cut.cells_met(*cell), met, (seed, cell))
                    self.assertEqual(cut.depth_at(*cell), max(row for row, _ in met) - cell[0])

    def test_a_longer_word_keeps_met_cells_and_a_depth_tells_how_long_a_word_is_needed(self):
        for seed in range(60):
            cut = random_cut(seed, 10 ** 9)
            for many in range(len(cut)):
                shorter = Cut(cut.sheet, cut.word[:many])
                for row, column in cells_of(shorter):
                    depth = cut.depth_at(row, column)
                    value = shorter.value_at(row, column)
                    self.assertEqual(value is not None, depth is not None and row + depth <= many)
                    if value is not None:
                        self.assertEqual((shorter.cells_met(row, column), shorter.depth_at(row, column), value),
                                         (cut.cells_met(row, column), depth, cut.value_at(row, column)))


class LongCutsTest(CheckedCase):
    def test_three_columns_of_400_rows(self):
        row = {"x": Here("y") + 1, "y": Here("z") + 2, "z": Down("x") + 1}
        sheet = Sheet.free(5, ["x", "y", "z"], {"x": 0, "y": 0, "z": 0}, a=row)
        cut, foot = Cut(sheet, ["a"] * 400), Cut(sheet, ["a"] * 400, foot={"x": 0, "y": 0, "z": 0})
        self.assertEqual([cut.rounds, foot.rounds, foot.value_at(1, "x"), foot.depth_at(1, "x")], [0, 1200, 0, 399])
        self.assertEqual(foot.cells_met(1, "x"), [(row, column) for row in range(1, 401) for column in "xyz"])
        self.assertEqual(cut.walk(1, "x"), (foot.cells_met(1, "x"), None))
        self.assertEqual([foot.cells_met(399, "z"), foot.depth_at(400, "z")], [[(399, "z"), *[(400, column) for column in "xyz"]], 0])

    def test_cells_are_sorted_by_the_names_of_the_columns(self):
        row = {"z": Plus(Here("m"), Down("a")), "m": Up("z"), "a": Plus(Number(1), Up("m"))}
        for columns in itertools.permutations("zma"):
            sheet = Sheet(2, columns, dict.fromkeys("zma", 0), {"x": row})
            cut = Cut(sheet, ["x"] * 3)
            self.assertEqual(cut.cells_met(1, "z"), [(1, "m"), (1, "z"), (2, "a")])
            self.assertEqual([cut.depth_at(1, "z"), cut.walk(3, "z")], [1, ([(3, "z")], None)])
            self.assertEqual(list(cut.row_values(2)), list(columns))

    def test_several_cuts_of_one_sheet(self):
        for seed in range(60):
            rnd, sheet = random.Random(seed), random_sheet(seed)
            for _ in range(4):
                word = rnd.choices(sheet.kinds(), k=rnd.randrange(7))
                foot = rnd.choice([None, {column: rnd.randrange(sheet.modulus) for column in sheet.columns}])
                cut = Cut(sheet, word, foot=foot)
                rows, rounds = model_cut(sheet, word, foot)
                self.assertEqual([rows_of(cut), cut.rounds], [rows, rounds])


if __name__ == "__main__":
    unittest.main()
