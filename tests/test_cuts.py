"""Points [31] and [34]: cuts, as far as they are written."""

import itertools
import random
import types
import unittest

from belowneeds.cuts import Cut
from belowneeds.errors import InvalidFoot, InvalidRow, InvalidWord, TooMany, UnknownColumn
from belowneeds.formulas import Down, Number
from belowneeds.sheets import Sheet
from examples import ODD_VALUES, blocks, caught, free_blocks, model_cut, parts_of, random_sheet

WORD = ["item", "item", "end", "item"]


def rows_of(cut):
    return [cut.row_values(row) for row in range(1, len(cut) + 1)]


class CutTest(unittest.TestCase):
    def check(self, error, kind, /, **attributes):
        self.assertIs(type(error), kind)
        self.assertEqual(parts_of(error), attributes)

    def test_the_example_of_the_interface(self):
        cut = Cut(blocks(), WORD)
        self.assertEqual(rows_of(cut), [{"n": 0, "u": 0}, {"n": 1, "u": 1}, {"n": 0, "u": 1}, {"n": None, "u": None}])
        self.assertEqual(cut.rounds, 6)

    def test_parts(self):
        foot = {"u": 1, "n": 0}
        sheet = blocks()
        cut = Cut(sheet, WORD, foot=foot)
        foot["u"] = 0
        self.assertEqual([cut.sheet, cut.word, cut.foot, len(cut)], [sheet, tuple(WORD), {"n": 0, "u": 1}, 4])
        cut.foot.clear()
        self.assertEqual(cut.foot, {"n": 0, "u": 1})
        self.assertEqual(rows_of(cut)[3], {"n": 1, "u": 0})
        self.assertIsNone(Cut(word=(), sheet=sheet).foot)
        with self.assertRaises(TypeError):
            Cut(sheet, WORD, foot)

    def test_values_and_empty_cells(self):
        cut = Cut(blocks(), ["end", "item"])
        self.assertEqual([cut.value_at(1, "n"), cut.value_at(row=2, column="u"), cut.row_values(row=2)],
                         [0, None, {"n": None, "u": None}])
        cells = cut.empty_cells()
        self.assertIsInstance(cells, types.GeneratorType)
        self.assertEqual(list(cells), [(2, "n"), (2, "u")])
        self.assertEqual(list(Cut(blocks(), []).empty_cells()), [])
        cut.row_values(1)["n"] = 7
        self.assertEqual(cut.row_values(1), {"n": 0, "u": 0})

    def test_the_empty_word(self):
        cut = Cut(blocks(), [])
        self.assertEqual([len(cut), cut.word, cut.rounds], [0, (), 0])
        self.check(caught(cut.row_values, 1), InvalidRow, value=1)

    def test_wrong_words(self):
        for value in (None, "item", {"item": 0}, 1):
            self.check(caught(Cut, blocks(), value, foot=1), InvalidWord, position=None)
        self.check(caught(Cut, blocks(), ["item"] * 3, foot=1), InvalidWord, position=2)

    def test_wrong_feet(self):
        for value in (*[value for value in ODD_VALUES if value is not None], {"n": 0}, {"n": 0, "u": 0, "z": 0}):
            self.check(caught(Cut, blocks(), [], foot=value), InvalidFoot, column=None)
        for value in (None, True, -1, 2, "0"):
            self.check(caught(Cut, blocks(), [], foot={"n": 0, "u": value}), InvalidFoot, column="u")
        self.check(caught(Cut, blocks(), ["end"] * 401, foot={"u": 2, "n": 2}), InvalidFoot, column="n")

    def test_four_hundred_rows_and_one_more(self):
        self.assertEqual(len(Cut(blocks(), ["end"] * 400)), 400)
        self.check(caught(Cut, blocks(), ["end"] * 401), TooMany, what="rows", limit=400)

    def test_wrong_rows_and_columns(self):
        cut = Cut(blocks(), WORD)
        for value in (*ODD_VALUES, 0, -1, 5):
            self.check(caught(cut.value_at, value, "z"), InvalidRow, value=value)
            self.check(caught(cut.row_values, value), InvalidRow, value=value)
        for value in (*ODD_VALUES, "z", "item"):
            self.check(caught(cut.value_at, 1, value), UnknownColumn, value=value)

    def test_many_cuts_as_by_rounds(self):
        for seed in range(120):
            sheet = random_sheet(seed)
            rnd = random.Random(seed)
            word = [rnd.choice(sheet.kinds()) for _ in range(rnd.randrange(9))]
            foot = {column: rnd.randrange(sheet.modulus) for column in sheet.columns} if seed % 3 == 0 else None
            cut = Cut(sheet, word, foot=foot)
            self.assertEqual((rows_of(cut), cut.rounds), model_cut(sheet, word, foot), seed)
            self.assertEqual([list(row) for row in rows_of(cut)], [list(sheet.columns)] * len(word))
            empty = [(row, column) for row in range(1, len(cut) + 1) for column in sheet.columns
                     if cut.value_at(row, column) is None]
            self.assertEqual(list(cut.empty_cells()), empty)

    def test_a_longer_word_keeps_the_values(self):
        for sheet in (blocks(), free_blocks(), random_sheet(3), random_sheet(4)):
            for word in itertools.product(sheet.kinds(), repeat=4):
                if sheet.is_word(word):
                    for row, column in itertools.product((1, 2, 3), sheet.columns):
                        value = Cut(sheet, word[:3]).value_at(row, column)
                        self.assertIn(value, (None, Cut(sheet, word).value_at(row, column)))

    def test_a_long_chain_from_below(self):
        kinds = {"x": {"n": Down("n")}, "e": {"n": Number(1)}}
        cut = Cut(Sheet(2, ["n"], {"n": 0}, kinds), ["x"] * 399 + ["e"])
        self.assertEqual([cut.rounds, cut.value_at(1, "n"), list(cut.empty_cells())], [400, 1, []])


if __name__ == "__main__":
    unittest.main()
