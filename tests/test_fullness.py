"""Points [4], [61], [62] and the end of [63]: full and open columns, delays, late words and first open rows."""

import unittest

from belowneeds.cuts import Cut
from belowneeds.endless import Endless
from belowneeds.errors import InvalidCount, LimitError, MissingError, TooMany, UnknownColumn
from belowneeds.fills import Fill, first_refused
from belowneeds.formulas import Choice, Down, Here, Number, Plus, Up
from belowneeds.fullness import (
    column_delay, delays, first_open_row, is_full, late_word, open_fill, sheet_delay,
)
from belowneeds.layers import layer_tables, standings, still_from
from belowneeds.sheets import Sheet
from belowneeds.tables import row_under, table_above
from examples import (
    END, ITEM, ODD_VALUES, PLAN, CheckedCase, blocks, caught, free_blocks, late_sheet, peek, planned_sheet,
    random_sheet, sheet_of_tables, words_from,
)

WITH_COLUMN = (is_full, column_delay, late_word, first_open_row, open_fill)
WITHOUT = (delays, sheet_delay)


def many_sheets():
    return [*map(late_sheet, range(120)), *map(planned_sheet, range(60)), *map(random_sheet, range(40))]


class ExamplesTest(CheckedCase):
    def test_the_example_of_the_interface(self):
        self.assertEqual([delays(blocks()), is_full(free_blocks(), "n"), first_open_row(free_blocks(), "u")],
                         [{"n": 2, "u": 2}, False, 1])

    def test_blocks(self):
        sheet = blocks()
        self.assertEqual([is_full(sheet, "n"), column_delay(column="u", sheet=sheet), sheet_delay(sheet)], [True, 2, 2])
        self.assertEqual([first_open_row(sheet, "n"), open_fill(sheet, "u")], [None, None])
        word, row = late_word(sheet, "n")
        self.assertEqual([type(word), Cut(sheet, word).value_at(row, "n"), len(word) - row >= 1], [list, None, True])
        self.assertEqual(list(delays(sheet)), ["n", "u"])
        delays(sheet).clear()

    def test_free_blocks(self):
        sheet = free_blocks()
        self.assertEqual([delays(sheet), sheet_delay(sheet), column_delay(sheet, "n"), late_word(sheet, "n")],
                         [{"n": None, "u": None}, None, None, None])
        self.assertIs(is_full(sheet, "u"), False)
        self.assertEqual([open_fill(sheet, "n"), open_fill(sheet, "u")], [Fill.of("item")] * 2)

    def test_an_open_column_beside_full_ones(self):
        sheet = Sheet.free(2, list("abcd"), dict.fromkeys("abcd", 0),
                           x={"a": Down("b"), "b": Number(1), "c": Here("c"), "d": Down("a")},
                           y={"a": Number(0), "b": Number(0), "c": Number(0), "d": Up("a")})
        self.assertEqual([delays(sheet), sheet_delay(sheet)], [{"a": 1, "b": 0, "c": None, "d": 2}, None])
        self.assertEqual([first_open_row(sheet, column) for column in "abcd"], [None, None, 1, None])

    def test_delays_of_zero(self):
        sheet = Sheet.free(3, ["a"], {"a": 2}, x={"a": Up("a")}, y={"a": Number(0)})
        self.assertEqual([delays(sheet), sheet_delay(sheet), late_word(sheet, "a"), first_open_row(sheet, "a")],
                         [{"a": 0}, 0, None, None])
        self.assertEqual([delays(peek()), late_word(peek(), "c")], [{"c": 0, "p": 1}, None])
        word, row = late_word(peek(), "p")
        self.assertIsNone(Cut(peek(), word).value_at(row, "p"))

    def test_sheets_without_columns_that_are_read(self):
        no_up = Sheet.free(2, ["a", "b"], {"a": 0, "b": 0}, x={"a": Down("b"), "b": Number(1)})
        self.assertEqual([delays(no_up), late_word(no_up, "a")], [{"a": 1, "b": 0}, (["x"], 1)])
        no_down = Sheet.free(2, ["a", "b"], {"a": 0, "b": 0}, x={"a": Up("b"), "b": Here("b")}, y={"a": Number(0), "b": Number(0)})
        self.assertEqual([delays(no_down), first_open_row(no_down, "a"), first_open_row(no_down, "b")],
                         [{"a": None, "b": None}, 2, 1])
        neither = Sheet.free(2, ["a", "b"], {"a": 0, "b": 0}, x={"a": Here("b"), "b": Here("a")})
        self.assertEqual([delays(neither), sheet_delay(neither), open_fill(neither, "a")],
                         [{"a": None, "b": None}, None, Fill.of("x")])

    def test_a_later_first_open_row(self):
        rows = {"a": {"c": Number(1)}, "s": {"c": Here("c")}}
        sheet = Sheet(2, ["c"], {"c": 0}, rows, [{"a": 1}, {"a": 2}, {"a": 2, "s": 2}])
        self.assertEqual([first_open_row(sheet, "c"), delays(sheet)], [3, {"c": None}])
        fill = open_fill(sheet, "c")
        self.assertEqual([first_refused(sheet, fill), Endless(sheet, fill).value_at(3, "c")], [None, None])
        self.assertEqual(Endless(sheet, fill).first_empty("c"), 3)

    def test_only_a_value_of_the_top_opens(self):
        row = {"t": Up("t"), "c": Choice(Up("t"), (1,), Here("c"), Number(0))}
        sheet = Sheet(2, ["t", "c"], {"t": 0, "c": 0}, {"x": row})
        self.assertEqual([delays(sheet), delays(sheet.with_top(t=1))], [{"t": 0, "c": 0}, {"t": 0, "c": None}])

    def test_a_counter_opens_late(self):
        # c counts up to 8, and only then does a cell of n need itself.
        row = {"c": Plus(Up("c"), Number(1)), "n": Choice(Here("c"), (8,), Here("n"), Number(1))}
        sheet = Sheet(9, ["c", "n"], {"c": 0, "n": 0}, {"x": row, "y": {"c": Number(0), "n": Number(0)}})
        self.assertEqual([first_open_row(sheet, "n"), first_open_row(sheet.with_top(c=3), "n"), delays(sheet)],
                         [8, 5, {"c": 0, "n": None}])
        self.assertEqual(Endless(sheet, open_fill(sheet, "n")).first_empty("n"), 8)

    def test_a_full_column_of_an_open_sheet_never_looks_at_the_open_one(self):
        row = {"a": Down("a"), "b": Choice(Number(0), (1,), Here("a"), Number(1)), "d": Choice(Up("b"), (1,), Up("b"), Up("a"))}
        sheet = Sheet(2, ["a", "b", "d"], {"a": 0, "b": 0, "d": 0}, {"x": row})
        self.assertEqual(delays(sheet), {"a": None, "b": 0, "d": 0})


class ComparedTest(CheckedCase):
    def test_delays_with_the_cuts_of_all_short_words(self):
        found = set()
        for sheet in many_sheets():
            told = delays(sheet)
            found.update(told.values())
            still = still_from(sheet)
            most = still + 3
            if len(sheet.kinds()) ** most <= 300:
                least = dict.fromkeys(sheet.columns, 0)
                for word in words_from(sheet, most):
                    for row, column in list(Cut(sheet, word).empty_cells()):
                        least[column] = max(least[column], len(word) - row + 1)
                for column, delay in told.items():
                    # A full column has a delay of at most the number of the still layer.
                    if delay is not None:
                        self.assertEqual(least[column], delay, (str(sheet), column))
                        self.assertLessEqual(delay, still)
                    elif first_open_row(sheet, column) + still <= most:
                        self.assertGreater(least[column], still, (str(sheet), column))
        self.assertTrue({None, 0, 1, 2} <= found)

    def test_the_facts_of_the_document(self):
        for sheet in [*map(late_sheet, range(40)), *map(planned_sheet, range(20))]:
            tables = layer_tables(sheet)
            told = delays(sheet)
            for many in range(still_from(sheet) + 1):
                below = [(place, table) for place, table, out in tables if out is None or out > many]
                holds = dict.fromkeys(sheet.columns, True)
                for place, above, table in standings(sheet, many):
                    for kind, other in sheet.plan()[place].items():
                        for at, under in below:
                            if at == other and table_above(sheet, kind, under) == table:
                                row = row_under(sheet, above, kind, under)
                                holds = {column: holds[column] and row[column] is not None for column in holds}
                for column, delay in told.items():
                    self.assertEqual(holds[column], delay is not None and delay <= many)

    def test_late_words(self):
        for sheet in many_sheets():
            for column, delay in delays(sheet).items():
                told = late_word(sheet, column)
                if delay is None or delay == 0:
                    self.assertIsNone(told)
                else:
                    word, row = told
                    self.assertIs(type(told), tuple)
                    self.assertTrue(sheet.is_word(word) and 1 <= row <= len(word) - delay + 1)
                    self.assertIsNone(Cut(sheet, word).value_at(row, column))

    def test_open_fills_and_first_open_rows(self):
        opened = 0
        for sheet in many_sheets():
            still = still_from(sheet)
            for column, delay in delays(sheet).items():
                row, fill = first_open_row(sheet, column), open_fill(sheet, column)
                if delay is not None:
                    self.assertEqual((row, fill), (None, None))
                else:
                    opened += 1
                    self.assertIsNone(first_refused(sheet, fill))
                    self.assertIsNone(Endless(sheet, fill).value_at(row, column))
                    # In the rows ahead of it, each cell has a value in each word that goes on long enough.
                    if len(sheet.kinds()) ** (row + still) <= 300:
                        for word in words_from(sheet, row + still):
                            for ahead in range(1, min(row, len(word) - still + 1)):
                                self.assertIsNotNone(Cut(sheet, word).value_at(ahead, column))
        self.assertGreater(opened, 50)

    def test_all_answers_agree(self):
        for sheet in many_sheets():
            told = delays(sheet)
            for column in sheet.columns:
                self.assertEqual([column_delay(sheet, column), is_full(sheet, column)],
                                 [told[column], told[column] is not None])
            self.assertEqual(sheet_delay(sheet), None if None in told.values() else max(told.values()))


class LimitsTest(CheckedCase):
    def test_just_as_many_tables_as_the_limit(self):
        sheet = blocks()
        self.assertEqual([delays(sheet, limit=8), sheet_delay(sheet, limit=8)], [{"n": 2, "u": 2}, 2])
        for limit in (7, 1, 0):
            for call in WITH_COLUMN:
                call(sheet, "n", limit=8)
                self.check(caught(call, sheet, "n", limit=limit), TooMany, what="tables", limit=limit)
            for call in WITHOUT:
                self.check(caught(call, sheet, limit=limit), TooMany, what="tables", limit=limit)

    def test_the_usual_limit(self):
        for many in (343, 400):
            self.assertEqual(delays(sheet_of_tables(many)), {"a": None, "b": None, "c": None})
        sheet = sheet_of_tables(401)
        self.check(caught(delays, sheet), TooMany, what="tables", limit=400)
        self.assertIsInstance(caught(is_full, sheet, "a"), LimitError)
        self.assertEqual([delays(sheet, limit=401), first_open_row(sheet, "c", limit=401)],
                         [{"a": None, "b": None, "c": None}, 1])

    def test_a_great_delay(self):
        # c counts the rows, and n waits for the row with 7.
        full = {"c": Choice(Up("c"), (7,), Number(0), Plus(Up("c"), Number(1))), "n": Choice(Here("c"), (7,), Number(1), Down("n"))}
        sheet = Sheet(9, ["c", "n"], {"c": 0, "n": 0}, {"x": full})
        self.assertEqual([delays(sheet), late_word(sheet, "c")], [{"c": 0, "n": 7}, None])
        word, row = late_word(sheet, "n")
        self.assertTrue(len(word) - row >= 6 and Cut(sheet, word).value_at(row, "n") is None)

    def test_wrong_columns_and_limits(self):
        for value in (*ODD_VALUES, "z", "item", 0):
            for call in WITH_COLUMN:
                error = caught(call, blocks(), value, limit=None)
                self.check(error, UnknownColumn, value=value)
                self.assertIsInstance(error, MissingError)
        for value in (*ODD_VALUES, -1):
            for call in WITH_COLUMN:
                self.check(caught(call, blocks(), "n", limit=value), InvalidCount, value=value)
            for call in WITHOUT:
                self.check(caught(call, blocks(), limit=value), InvalidCount, value=value)
        for call in WITH_COLUMN:
            with self.assertRaises(TypeError):
                call(blocks(), "n", 400)

    def test_too_many_entries(self):
        row = {column: Up(column) for column in "abcde"}
        sheet = Sheet(2, list("abcde"), dict.fromkeys("abcde", 0), {"x": row})
        for call in WITH_COLUMN:
            self.check(caught(call, sheet, "a", limit=0), TooMany, what="entries", limit=100)
            self.check(caught(call, sheet, "f", limit=0), UnknownColumn, value="f")
            self.check(caught(call, sheet, "a", limit=-1), InvalidCount, value=-1)
        for call in WITHOUT:
            self.check(caught(call, sheet, limit=0), TooMany, what="entries", limit=100)
            self.check(caught(call, sheet, limit=True), InvalidCount, value=True)

    def test_the_sheet_stays(self):
        sheet = Sheet(2, ["n", "u"], {"n": 0, "u": 0}, {"end": END, "item": ITEM}, PLAN)
        for call in WITH_COLUMN:
            self.assertEqual(call(sheet, "n"), call(sheet, "n"))
        self.assertEqual(sheet, blocks())


if __name__ == "__main__":
    unittest.main()
