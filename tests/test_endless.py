"""Points [4], [51], [52] and [53]: endless sheets, their far rows, depths and walks."""

import random
import types
import unittest

from belowneeds.cuts import Cut
from belowneeds.endless import Endless
from belowneeds.errors import InvalidCount, InvalidRow, NotAllowed, StateError, TooMany, UnknownColumn
from belowneeds.fills import Fill
from belowneeds.formulas import Choice, Down, Formula, Here, Number, Plus, Up
from belowneeds.sheets import Sheet
from belowneeds.tables import row_under, table_of
from examples import (
    END, ITEM, ODD_VALUES, CheckedCase, blocks, caught, free_blocks, late_sheet, planned_sheet, random_fill, random_sheet,
)

FAR = 10 ** 60
COLUMNS = list("abcdef")


def many_sheets():
    """Sheets of several sorts, each with a fill and its endless sheet."""
    for make, many in ((planned_sheet, 120), (late_sheet, 40), (random_sheet, 60)):
        for seed in range(many):
            sheet = make(seed)
            fill = random_fill(sheet, random.Random(seed))
            yield sheet, fill, Endless(sheet, fill)


def over(endless, row):
    """What stands above a row, at the columns that are read by `up`."""
    values = endless.sheet.top() if row == 1 else endless.row_values(row - 1)
    return [values[column] for column in endless.sheet.reads("up")]


def model_walk(walk, endless):
    """The shortest list for a walk, of which enough cells are passed, with the greatest position."""
    for many in range(1, len(walk)):
        row, column = walk[many]
        for back in range(many - 1, -1, -1):
            shift = row - walk[back][0]
            if walk[back][1] == column and shift >= 0 and shift % endless.period == 0:
                if shift == 0 or all(row >= endless.begin for row, _ in walk[back:many]):
                    return (walk[:many], back, shift)
    raise AssertionError


class EndlessTest(CheckedCase):
    def test_the_example_of_the_interface(self):
        endless = Endless(blocks(), Fill.of("item", "item", "end"))
        self.assertEqual([endless.begin, endless.period, endless.row_values(10 ** 20), endless.depth_at(4, "u")],
                         [1, 6, {"n": 0, "u": 1}, 2])
        self.assertEqual(Endless(free_blocks(), Fill.of("item")).walk(1, "n"), ([(1, "n"), (2, "n")], 1, 1))

    def test_the_example_of_the_document(self):
        endless = Endless(free_blocks(), Fill.of("item"))
        self.assertEqual([endless.begin, endless.period, endless.row_values(1), endless.first_empty("u")],
                         [2, 1, {"n": None, "u": None}, 1])

    def test_parts(self):
        fill = Fill(["end"], ["item", "end"])
        endless = Endless(fill=fill, sheet=blocks())
        self.assertEqual([endless.sheet, endless.fill], [blocks(), fill])
        self.assertEqual(list(endless.row_values(3)), ["n", "u"])
        endless.row_values(3).clear()
        next(iter(endless.rows(3))).clear()
        self.assertEqual([endless.row_values(3), endless.row_values(1)], [{"n": 0, "u": 1}, {"n": 0, "u": 0}])

    def test_equality(self):
        endless = Endless(blocks(), Fill(["item"], ["end", "item"]))
        self.assertEqual(endless, Endless(blocks(), Fill.of("item", "end")))
        for other in (Endless(blocks(), Fill.of("end", "item")), Endless(free_blocks(), Fill.of("item", "end")),
                      Endless(blocks().with_top(u=1), Fill.of("item", "end")), None, blocks(), Fill.of("item", "end")):
            self.assertFalse(endless == other)
            self.assertTrue(endless != other)

    def test_not_allowed(self):
        for fill, row in ((Fill.of("item"), 3), (Fill.of("a"), 1), (Fill(["end"] * 400, ["item"]), 403),
                          (Fill(["end"] * 480, ["end"] * 479 + ["item", "z"]), 961)):
            error = caught(Endless, blocks(), fill)
            self.check(error, NotAllowed, row=row)
            self.assertIsInstance(error, StateError)
            self.assertIsInstance(error, RuntimeError)

    def test_too_many_entries(self):
        row = {column: Up(column) for column in "abcde"}
        sheet = Sheet(2, list("abcde"), dict.fromkeys("abcde", 0), {"x": row})
        self.check(caught(Endless, sheet, Fill.of("x")), TooMany, what="entries", limit=100)
        self.check(caught(Endless, sheet, Fill.of("x", "y")), NotAllowed, row=2)

    def test_rows(self):
        endless = Endless(blocks(), Fill.of("item", "item", "end"))
        rows = endless.rows(many=7)
        self.assertIsInstance(rows, types.GeneratorType)
        self.assertEqual(list(rows), [endless.row_values(row) for row in range(1, 8)])
        self.assertEqual([list(endless.rows(0)), len(list(endless.rows(2000)))], [[], 2000])
        for value in (*ODD_VALUES, -1, 2001):
            self.check(caught(lambda: next(endless.rows(value), None)), InvalidCount, value=value)

    def test_wrong_rows_and_columns(self):
        endless = Endless(blocks(), Fill.of("end"))
        for value in (*ODD_VALUES, 0, -1, FAR + 1):
            self.check(caught(endless.value_at, value, "z"), InvalidRow, value=value)
            self.check(caught(endless.row_values, value), InvalidRow, value=value)
            self.check(caught(endless.true_table, value), InvalidRow, value=value)
        for value in (*ODD_VALUES, 0, -1, 401, FAR):
            for asked in (endless.depth_at, endless.next_of, endless.walk):
                self.check(caught(asked, value, "z"), InvalidRow, value=value)
        for value in (*ODD_VALUES, "z", "item"):
            for asked in (endless.value_at, endless.depth_at, endless.next_of, endless.walk):
                self.check(caught(asked, 1, value), UnknownColumn, value=value)
            self.check(caught(endless.first_empty, value), UnknownColumn, value=value)
        self.assertEqual([endless.value_at(FAR, "n"), endless.depth_at(400, "u"), endless.walk(400, "u")],
                         [0, 0, ([], None, 0)])

    def test_rows_as_those_of_cuts(self):
        for sheet, fill, endless in many_sheets():
            cut = Cut(sheet, fill.first(90))
            for row in range(1, 30):
                self.assertEqual(endless.row_values(row), cut.row_values(row), (str(sheet), fill, row))
                for column in sheet.columns:
                    self.assertEqual(endless.value_at(row, column), cut.value_at(row, column))
                    self.assertEqual(endless.next_of(row, column), cut.next_of(row, column))

    def test_begin_and_period_are_the_least(self):
        later = 0
        for _, fill, endless in many_sheets():
            turn = len(fill.turn)
            told = [(begin, period) for begin in range(len(fill.lead) + 1, endless.begin + 1)
                    for period in range(turn, 30 * turn + 1, turn) if over(endless, begin) == over(endless, begin + period)]
            self.assertEqual(told[0], (endless.begin, endless.period))
            later += endless.begin > len(fill.lead) + 1
        self.assertGreater(later, 10)

    def test_far_rows(self):
        for sheet, fill, endless in many_sheets():
            begin, period = endless.begin, endless.period
            for row in (FAR, FAR - 1, 10 ** 30 + 7):
                near = begin + (row - begin) % period
                self.assertEqual(endless.row_values(row), endless.row_values(near))
                self.assertEqual([endless.value_at(row, column) for column in sheet.columns],
                                 list(endless.row_values(near).values()))
                self.assertEqual(endless.true_table(row), endless.true_table(near))

    def test_rows_filled_in_one_by_one(self):
        for sheet, fill, endless in list(many_sheets())[::6]:
            above = tuple(over(endless, 1))
            cut = Cut(sheet, fill.first(400))
            for row in range(1, 361):
                told = row_under(sheet, above, fill.kind_at(row), endless.true_table(row + 1))
                self.assertEqual(endless.row_values(row), told)
                self.assertEqual(cut.row_values(row), told)
                above = tuple(told[column] for column in sheet.reads("up"))

    def test_a_long_period_filled_in_one_by_one(self):
        read = Formula.read
        kinds = {"x": {"a": read("(up a + 1)"), "b": read("if up a in {7} then ((up b + up a) + 3) else up b")},
                 "y": {"a": read("up a"), "b": read("(up b + 2)")}}
        sheet = Sheet(9, ["a", "b"], {"a": 4, "b": 4}, kinds)
        fill = Fill(["y"] * 5, ["x"] * 7 + ["y"] * 3)
        endless = Endless(sheet, fill)
        rows, row = [], sheet.top()
        for number in range(1, 3001):
            kind = fill.kind_at(number)
            row = {column: sheet.formula(kind, column).work_out(9, row, {}, {}) for column in "ab"}
            rows.append(row)
        self.assertEqual([endless.row_values(number) for number in range(1, 3001)], rows)
        begin, period = endless.begin, endless.period
        self.assertGreater(period, 10)
        self.assertEqual(endless.row_values(FAR), rows[begin + (FAR - begin) % period - 1])
        self.assertEqual(endless.depth_at(400, "b"), 0)

    def test_first_empty(self):
        for sheet, _, endless in many_sheets():
            for column in sheet.columns:
                rows = [row for row in range(1, 60) if endless.value_at(row, column) is None]
                self.assertEqual(endless.first_empty(column), rows[0] if rows else None)

    def test_true_tables_as_those_of_long_words(self):
        for sheet, fill, endless in many_sheets():
            for row in (1, 2, 3, len(fill.lead) + 1, len(fill.lead) + len(fill.turn) + 1):
                place = sheet.place_behind(fill.first(row - 1))
                self.assertEqual(endless.true_table(row), table_of(sheet, fill.behind(row - 1).first(80), place=place))


class DepthTest(CheckedCase):
    def test_depths_as_those_of_cuts(self):
        for sheet, fill, endless in many_sheets():
            cut = Cut(sheet, fill.first(80))
            for row in range(12, 0, -1):
                for column in sheet.columns:
                    self.assertEqual(endless.depth_at(row, column), cut.depth_at(row, column))

    def test_the_fact_of_the_document(self):
        for sheet, fill, endless in many_sheets():
            for row in (1, 2, 5):
                for column in sheet.columns:
                    depth = endless.depth_at(row, column)
                    for more in range(4):
                        value = Cut(sheet, fill.first(row + more)).value_at(row, column)
                        self.assertEqual(value is not None, depth is not None and depth <= more)

    def test_far_depths(self):
        sheet = Sheet(2, COLUMNS, dict.fromkeys(COLUMNS, 0), {
            "x": {**{column: Here(other) for column, other in zip(COLUMNS, COLUMNS[1:])}, "f": Down("a")},
            "e": {**{column: Here(other) for column, other in zip(COLUMNS, COLUMNS[1:])}, "f": Number(1)},
        })
        endless = Endless(sheet, Fill(["x"] * 480, ["e"]))
        self.assertEqual([endless.depth_at(1, "a"), endless.depth_at(400, "f"), endless.value_at(FAR, "a")], [480, 81, 1])
        endless = Endless(sheet, Fill(["e"] * 479 + ["x"], ["x"] * 479 + ["e"]))
        self.assertEqual([endless.begin, endless.period, endless.depth_at(400, "a"), endless.depth_at(1, "f")],
                         [481, 480, 0, 0])
        self.assertEqual(endless.row_values(FAR), dict.fromkeys(COLUMNS, 1))

    def test_a_depth_of_many_turns(self):
        read = Formula.read
        kinds = {"x": {"a": read("(up a + 1)"), "b": read("if up a in {8} then (up b + 1) else up b"),
                       "n": read("if here a in {8} then if here b in {8} then 5 else down n else down n")},
                 "y": {"a": Up("a"), "b": Up("b"), "n": Down("n")}}
        sheet = Sheet(9, ["a", "b", "n"], {"a": 0, "b": 0, "n": 0}, kinds)
        endless = Endless(sheet, Fill.of("x", *["y"] * 479))
        self.assertEqual([endless.begin, endless.period, endless.value_at(1, "n"), endless.depth_at(1, "n")],
                         [1, 81 * 480, 5, 79 * 480])
        self.assertEqual([endless.value_at(FAR, "b"), endless.first_empty("n")], [endless.value_at(FAR % 38880, "b"), None])


class WalkTest(CheckedCase):
    def test_a_cell_with_a_value(self):
        endless = Endless(blocks(), Fill.of("item", "end"))
        self.assertEqual([endless.walk(1, "n"), endless.next_of(1, "n"), endless.depth_at(1, "n")],
                         [([], None, 0), None, 1])

    def test_circles(self):
        sheet = Sheet.free(2, ["a", "b"], {"a": 0, "b": 0}, x={"a": Down("b"), "b": Up("a")},
                           y={"a": Here("a"), "b": Down("a")})
        self.assertEqual(Endless(sheet, Fill.of("x")).walk(2, "a"), ([(2, "a"), (3, "b")], 0, 0))
        self.assertEqual(Endless(sheet, Fill(["x"], ["y"])).walk(1, "a"), ([(1, "a"), (2, "b"), (3, "a")], 2, 0))
        self.assertEqual(Endless(sheet, Fill.of("x")).depth_at(1, "a"), None)

    def test_the_begin_is_waited_for(self):
        # The row of the lead looks as the rows of the turn do, but it is ahead of the begin.
        sheet = Sheet.free(2, ["n", "k"], {"n": 0, "k": 0}, x={"n": Down("n"), "k": Number(0)},
                           y={"n": Down("n"), "k": Number(1)})
        endless = Endless(sheet, Fill(["y", "x"], ["x", "x", "y"]))
        self.assertEqual([endless.begin, endless.period], [3, 3])
        self.assertEqual(endless.walk(1, "n"), ([(row, "n") for row in range(1, 6)], 2, 3))
        self.assertEqual(endless.walk(400, "n"), ([(400, "n"), (401, "n"), (402, "n")], 0, 3))

    def test_a_flight_that_goes_up_again_and_again(self):
        # Two rows down by "a", one row up by "b", by turns.
        sheet = Sheet.free(2, ["a", "b", "c"], dict.fromkeys("abc", 0),
                           x={"a": Down("b"), "b": Down("c"), "c": Up("a")})
        endless = Endless(sheet, Fill.of("x"))
        self.assertEqual([endless.begin, endless.walk(1, "a")], [2, ([(1, "a"), (2, "b"), (3, "c"), (2, "a")], 1, 1)])

    def test_walks_are_the_shortest(self):
        sorts = [0, 0]
        for sheet, fill, endless in many_sheets():
            cut = Cut(sheet, fill.first(120))
            for row in range(1, 13):
                for column in sheet.columns:
                    if endless.value_at(row, column) is None:
                        walk, back = cut.walk(row, column)
                        walk = walk if back is None else [*walk, walk[back]]
                        told = model_walk(walk, endless)
                        self.assertEqual(endless.walk(row, column), told, (str(sheet), fill, row, column))
                        sorts[told[2] > 0] += 1
        self.assertGreater(min(sorts), 200)

    def test_a_long_flight(self):
        sheet = Sheet.free(2, ["n"], {"n": 0}, x={"n": Down("n")}, y={"n": Plus(Down("n"), Number(1))})
        endless = Endless(sheet, Fill(["y"] * 480, ["x"] * 479 + ["y"]))
        cells, back, shift = endless.walk(1, "n")
        self.assertEqual([len(cells), back, shift, cells[-1]], [959, 479, 480, (959, "n")])
        self.assertEqual([endless.begin, endless.fill.lead[-1]], [480, "y"])

    def test_what_is_needed_hangs_on_values(self):
        choice = Choice(Here("k"), (0,), Down("n"), Up("n"))
        sheet = Sheet.free(2, ["k", "n"], {"k": 0, "n": 0}, x={"k": Number(0), "n": choice}, y={"k": Number(1), "n": choice})
        endless = Endless(sheet, Fill.of("x", "y"))
        self.assertEqual([endless.walk(1, "n"), endless.walk(2, "n")],
                         [([(1, "n"), (2, "n")], 0, 0), ([(2, "n"), (1, "n")], 0, 0)])
        endless = Endless(sheet, Fill(["x", "y"], ["x"]))
        self.assertEqual([endless.next_of(3, "n"), endless.walk(3, "n")], [(4, "n"), ([(3, "n")], 0, 1)])

    def test_blocks_with_other_leads(self):
        sheet = Sheet(2, ["n", "u"], {"n": 0, "u": 0}, {"end": END, "item": ITEM})
        endless = Endless(sheet, Fill(["end", "end"], ["item"]))
        self.assertEqual([endless.begin, endless.period, endless.first_empty("n"), endless.first_empty("u")], [4, 1, 3, 3])
        self.assertEqual(endless.walk(3, "u"), ([(3, "u"), (3, "n"), (4, "n")], 2, 1))
        self.assertEqual(endless.walk(7, "u"), ([(row, "u") for row in range(7, 2, -1)] + [(3, "n"), (4, "n")], 6, 1))


if __name__ == "__main__":
    unittest.main()
