"""Points [41] and [42]: aboves, tables, rows under aboves, and the tables of words."""

import itertools
import random
import unittest

from belowneeds.cuts import Cut
from belowneeds.errors import (
    InvalidAbove, InvalidFoot, InvalidTable, InvalidWord, LimitError, TooMany, UnknownKind, UnknownPlace,
)
from belowneeds.formulas import Choice, Down, Here, Number, Plus, Up
from belowneeds.sheets import Sheet
from belowneeds.tables import (
    blank, entries, foot_table, is_rising, is_table, row_under, table_above, table_of,
)
from examples import (
    ODD_VALUES, CheckedCase, blocks, caught, model_aboves, model_cut, model_table, none_first, planned_sheet,
    random_sheet, words_from,
)

NONE, ZERO, ONE = ((None,),) * 3, ((0,),) * 3, ((1,),) * 3


def wide_sheet(modulus, ups, downs=1):
    """A sheet that reads so many columns by `up`, and so many by `down`."""
    columns = list("abcdef")
    row = {column: Up(column) if column in columns[:ups] else Number(1) for column in columns}
    for column in columns[:downs]:
        row[column] = Plus(row[column], Down(column))
    return Sheet(modulus, columns, dict.fromkeys(columns, 0), {"x": row})


class EntriesTest(CheckedCase):
    def test_the_example_of_the_interface(self):
        zero = table_above(blocks(), "end", blank(blocks()))
        self.assertEqual([entries(blocks()), zero, table_above(blocks(), "item", zero)],
                         [[(None,), (0,), (1,)], ZERO, ONE])

    def test_entries_are_sorted(self):
        sheet = wide_sheet(3, 2)
        self.assertEqual(entries(sheet), [
            (None, None), (None, 0), (None, 1), (None, 2), (0, None), (0, 0), (0, 1), (0, 2),
            (1, None), (1, 0), (1, 1), (1, 2), (2, None), (2, 0), (2, 1), (2, 2),
        ])
        for sheet in map(random_sheet, range(60)):
            self.assertEqual(entries(sheet), model_aboves(sheet))
            self.assertEqual(entries(sheet), sorted(entries(sheet), key=none_first))

    def test_no_column_is_read(self):
        no_up = Sheet(2, ["a"], {"a": 0}, {"x": {"a": Down("a")}, "y": {"a": Number(1)}})
        self.assertEqual([entries(no_up), blank(no_up), table_of(no_up, ["x", "y"])], [[()], ((None,),), ((1,),)])
        self.assertEqual(row_under(no_up, (), "x", ((0,),)), {"a": 0})
        no_down = Sheet(2, ["a"], {"a": 0}, {"x": {"a": Up("a")}})
        self.assertEqual([entries(no_down), blank(no_down), table_of(no_down, ["x"] * 3)],
                         [[(None,), (0,), (1,)], ((), (), ()), ((), (), ())])
        self.assertEqual([is_rising(no_down, ((), (), ())), is_rising(no_down, ())], [True, False])
        neither = Sheet(2, ["a"], {"a": 0}, {"x": {"a": Number(1)}})
        self.assertEqual([entries(neither), blank(neither)], [[()], ((),)])

    def test_just_a_hundred_entries(self):
        sheet = wide_sheet(9, 2)
        self.assertEqual([len(entries(sheet)), len(blank(sheet)), is_rising(sheet, blank(sheet))], [100, 100, True])
        self.assertEqual(row_under(sheet, (8, 1), "x", blank(sheet))["b"], 1)

    def test_more_than_a_hundred_entries(self):
        for sheet in (wide_sheet(2, 5), wide_sheet(9, 3), wide_sheet(4, 3), wide_sheet(9, 6)):
            for call in (lambda: entries(sheet), lambda: blank(sheet), lambda: is_table(sheet, None),
                         lambda: is_rising(sheet, None), lambda: foot_table(sheet, dict.fromkeys(sheet.columns, 0)),
                         lambda: row_under(sheet, None, "z", None), lambda: table_above(sheet, "x", None),
                         lambda: table_of(sheet, ["x"])):
                error = caught(call)
                self.check(error, TooMany, what="entries", limit=100)
                self.assertIsInstance(error, LimitError)
                self.assertIsInstance(error, ArithmeticError)
        sheet = wide_sheet(9, 3)
        self.check(caught(table_above, sheet, "z", None), UnknownKind, value="z")
        self.check(caught(table_of, sheet, ["z"]), InvalidWord, position=0)
        self.check(caught(table_of, sheet, ["x"], place=1), UnknownPlace, value=1)
        self.check(caught(table_of, sheet, ["x"], foot={}), InvalidFoot, column=None)
        self.check(caught(foot_table, sheet, None), InvalidFoot, column=None)


class KindsOfTablesTest(CheckedCase):
    def test_blank_and_foot(self):
        sheet = Sheet(3, ["a", "b", "c"], {"a": 0, "b": 0, "c": 0},
                      {"x": {"a": Down("c"), "b": Up("a"), "c": Down("a")}})
        self.assertEqual(blank(sheet), ((None, None),) * 4)
        self.assertEqual(foot_table(sheet, {"c": 2, "b": 1, "a": 0}), ((0, 2),) * 4)

    def test_wrong_feet(self):
        for value in (*ODD_VALUES, {"n": 0}, {"n": 0, "u": 0, "z": 0}):
            self.check(caught(foot_table, blocks(), value), InvalidFoot, column=None)
        for value in (None, True, -1, 2, "0"):
            self.check(caught(foot_table, blocks(), {"n": 0, "u": value}), InvalidFoot, column="u")
        self.check(caught(foot_table, sheet=blocks(), foot={"u": 2, "n": 2}), InvalidFoot, column="n")

    def test_is_table(self):
        sheet = blocks()
        for value in (NONE, ZERO, ONE, ((0,), (1,), (None,))):
            self.assertIs(is_table(sheet, value), True)
        for value in (*ODD_VALUES, list(ZERO), ((0,),) * 2, ((0,),) * 4, ((0,), (1,), (2,)), ((0,), (1,), (True,)),
                      ((0,), (1,), [1]), ((0,), (1,), 1), ((0,), (1,), (-1,)), ((0,), (1,), ("0",)),
                      ((0,), (1,), (0, 0)), ((0,), (1,), ()), ((0,), (False,), (0,)), ((0,), (1,), ([],))):
            self.assertIs(is_table(sheet, value), False)
            self.assertIs(is_rising(sheet, value), False)

    def test_is_rising(self):
        sheet = blocks()
        for value in itertools.product([(None,), (0,), (1,)], repeat=3):
            rises = value[0] == (None,) or value[0] == value[1] == value[2]
            self.assertIs(is_rising(sheet, value), rises)

    def test_is_rising_for_several_columns(self):
        rnd = random.Random(3)
        sheet = wide_sheet(2, 2, 2)
        aboves = entries(sheet)
        many = [0, 0]
        for _ in range(1500):
            table = tuple(tuple(rnd.choice([None, None, 1]) for _ in range(2)) for _ in aboves)
            if rnd.randrange(3):
                # Made rising: each entry shows what the lesser ones show.
                table = tuple(tuple(1 if any(row[at] and less(low, above) for low, row in zip(aboves, table)) else None
                                    for at in range(2)) for above in aboves)
            rises = all(less(table[low], table[high]) for low in range(9) for high in range(9)
                        if less(aboves[low], aboves[high]))
            many[rises] += 1
            self.assertIs(is_rising(sheet, table), rises)
        self.assertTrue(min(many) > 100)


def less(one, other):
    return all(part is None or part == more for part, more in zip(one, other))


class RowUnderTest(CheckedCase):
    def test_blocks(self):
        sheet = blocks()
        self.assertEqual([row_under(sheet, (1,), "item", ZERO), row_under(sheet, (None,), "item", ZERO),
                          row_under(table=NONE, kind="item", above=(1,), sheet=sheet)],
                         [{"n": 1, "u": 0}, {"n": 1, "u": None}, {"n": None, "u": None}])
        self.assertEqual(list(row_under(sheet, (0,), "end", NONE)), ["n", "u"])
        row_under(sheet, (0,), "end", NONE).clear()
        self.assertEqual(row_under(sheet, (0,), "end", NONE), {"n": 0, "u": 0})

    def test_the_table_hangs_on_the_row_itself(self):
        choice = Choice(Down("b"), (1,), Number(1), Up("a"))
        sheet = Sheet(2, ["a", "b"], {"a": 0, "b": 0}, {"x": {"a": choice, "b": Here("a")}, "y": {"a": Number(1), "b": Here("a")}})
        self.assertEqual([sheet.reads("up"), sheet.reads("down")], [("a",), ("b",)])
        table = ((None,), (1,), (0,))
        self.assertEqual(row_under(sheet, (0,), "y", table), {"a": 1, "b": 1})
        self.assertEqual(row_under(sheet, (0,), "x", table), {"a": None, "b": None})
        self.assertEqual(row_under(sheet, (0,), "x", ((1,), (1,), (1,))), {"a": 1, "b": 1})

    def test_errors(self):
        sheet = blocks()
        for value in (*[value for value in ODD_VALUES if value != ()], (), (2,), (-1,), (True,), (False,), [0], (0, 0), ("0",), ([],), 0):
            self.check(caught(row_under, sheet, value, "z", None), InvalidAbove, value=value)
        for value in (*ODD_VALUES, "n", "free", ["end"]):
            self.check(caught(row_under, sheet, (0,), value, None), UnknownKind, value=value)
            self.check(caught(table_above, sheet, value, None), UnknownKind, value=value)
        for value in (*ODD_VALUES, list(ZERO), ((0,),), ((0,), (1,), (1,)), ((0,), (0,), (None,)), ((None,), (2,), (0,)),
                      ((None,), (True,), (0,))):
            self.check(caught(row_under, sheet, (0,), "end", value), InvalidTable, value=value)
            self.check(caught(table_above, sheet, "end", value), InvalidTable, value=value)

    def test_as_the_cut_of_two_rows(self):
        # A foot is a table that shows the same for each entry.
        for seed in range(80):
            sheet = random_sheet(seed)
            rnd = random.Random(seed)
            foot = {column: rnd.choice([None, *range(sheet.modulus)]) for column in sheet.columns}
            table = (tuple(foot[column] for column in sheet.reads("down")),) * len(entries(sheet))
            for kind, above in itertools.product(sheet.kinds(), entries(sheet)):
                top = {**dict.fromkeys(sheet.columns), **dict(zip(sheet.reads("up"), above))}
                rows, _ = model_cut(sheet, [kind], foot, top)
                self.assertEqual(row_under(sheet, above, kind, table), rows[0], (seed, kind, above))


class TableOfTest(CheckedCase):
    def test_blocks(self):
        sheet = blocks()
        told = [table_of(sheet, word) for word in ([], ["item"], ["end"], ["item", "end"], ["item", "item"],
                                                   ("item", "item", "end"))]
        self.assertEqual(told, [NONE, NONE, ZERO, ONE, NONE, ZERO])
        foot = {"n": 1, "u": 0}
        self.assertEqual([table_of(sheet, [], foot=foot), table_of(sheet, ["item"], place=1, foot=foot)], [ONE, ZERO])
        self.assertEqual(table_of(sheet, ["end"], place=2), ZERO)

    def test_errors(self):
        sheet = blocks()
        for value in (*ODD_VALUES, -1, 3):
            self.check(caught(table_of, sheet, None, place=value, foot=1), UnknownPlace, value=value)
        for value in (None, "item", {"item": 0}, 1, True):
            self.check(caught(table_of, sheet, value, foot=1), InvalidWord, position=None)
        self.check(caught(table_of, sheet, ["item"], place=2, foot=1), InvalidWord, position=0)
        self.check(caught(table_of, sheet, ["item", ["item"]], foot=1), InvalidWord, position=1)
        for value in ODD_VALUES:
            if value is not None:
                self.check(caught(table_of, sheet, ["item"], foot=value), InvalidFoot, column=None)
        self.check(caught(table_of, sheet, ["item"], foot={"n": 0, "u": None}), InvalidFoot, column="u")
        with self.assertRaises(TypeError):
            table_of(sheet, [], 0)

    def test_as_the_cuts_of_all_short_words(self):
        for seed in range(60):
            sheet = planned_sheet(seed)
            rnd = random.Random(seed)
            foot = {column: rnd.randrange(sheet.modulus) for column in sheet.columns} if seed % 2 else None
            place = rnd.randrange(sheet.places)
            for word in rnd.sample(words_from(sheet, 3, place), 4):
                table = table_of(sheet, word, place=place, foot=foot)
                self.assertEqual(table, model_table(sheet, word, foot), (seed, word))
                self.assertTrue(is_rising(sheet, table))
                if sheet.is_word(word) and word:
                    over = tuple(sheet.top()[column] for column in sheet.reads("up"))
                    row = Cut(sheet, word, foot=foot).row_values(1)
                    shown = tuple(row[column] for column in sheet.reads("down"))
                    self.assertEqual(table[entries(sheet).index(over)], shown)

    def test_a_table_above_leads_on_to_that_of_a_longer_word(self):
        sheet = planned_sheet(7)
        for word in words_from(sheet, 4):
            if word:
                rest = table_of(sheet, word[1:], place=sheet.place_behind(word[:1]))
                self.assertEqual(table_above(sheet, word[0], rest), table_of(sheet, word))

    def test_a_word_of_five_hundred_kinds(self):
        sheet = Sheet(2, ["n"], {"n": 0}, {"x": {"n": Down("n")}, "e": {"n": Number(1)}})
        self.assertEqual([table_of(sheet, ["x"] * 499 + ["e"]), table_of(sheet, ["x"] * 500)], [((1,),), ((None,),)])


if __name__ == "__main__":
    unittest.main()
