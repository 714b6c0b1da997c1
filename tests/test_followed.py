"""Point [81]: occurrences that are never followed, and columns that are constant."""

import random
import unittest

from belowneeds.cuts import Cut
from belowneeds.errors import (
    InvalidCount, InvalidPosition, InvalidRow, LimitError, MissingError, NotAllowed, NotFull, SheetError, StateError,
    TooMany, UnknownColumn, UnknownKind,
)
from belowneeds.fills import Fill, first_refused
from belowneeds.followed import constant_value, is_followed, never_followed, where_followed
from belowneeds.formulas import Choice, Down, Here, Least, Most, Number, Plus, Reference, Up
from belowneeds.fullness import column_delay, delays, sheet_delay
from belowneeds.sheets import Sheet
from examples import (
    ODD_VALUES, CheckedCase, blocks, caught, free_blocks, late_sheet, peek, planned_sheet, random_fill, random_sheet,
    sheet_of_tables, slow_counter, wide_sheet, words_from,
)


def occurrences(sheet):
    """All references of a sheet as (kind, column, number)."""
    return sorted((kind, column, number) for kind in sheet.kinds() for column in sheet.columns
                  for number, node in sheet.formula(kind, column).nodes() if isinstance(node, Reference))


def followed_in(sheet, most):
    """A dict from the occurrences that are worked out in cells with values to the least row, in cuts of long words."""
    found = {}
    for word in words_from(sheet, most):
        if len(word) == most:
            cut = Cut(sheet, word)
            rows = [sheet.top(), *[cut.row_values(row) for row in range(1, most + 1)], {}]
            for row, kind in enumerate(word, 1):
                for column in sheet.columns:
                    if rows[row][column] is not None:
                        around = (rows[row - 1], rows[row], rows[row + 1])
                        for number, _, _ in sheet.formula(kind, column).met(sheet.modulus, *around):
                            key = (kind, column, number)
                            found[key] = min(found.get(key, row), row)
    return found


def full_sheets(seeds):
    for sheet in [*map(late_sheet, seeds), *map(planned_sheet, seeds), *map(random_sheet, seeds)]:
        try:
            if sheet_delay(sheet) is not None:
                yield sheet
        except TooMany:
            pass


class NeverFollowedTest(CheckedCase):
    def test_blocks(self):
        sheet = blocks()
        self.assertEqual([never_followed(sheet), never_followed(limit=8, sheet=sheet)], [[], []])
        fill, row = where_followed(sheet, "item", "n", 1)
        self.assertEqual([row, fill.kind_at(1), first_refused(sheet, fill)], [1, "item", None])
        fill, row = where_followed(column="u", kind="end", number=2, sheet=sheet)
        self.assertEqual([row, fill.kind_at(1), first_refused(sheet, fill)], [1, "end", None])

    def test_rows_of_several_kinds_that_see_and_show_the_same(self):
        # Nothing but the kind tells these rows apart: what stands above and below them, and all their cells.
        zero = Choice(Up("c"), (7,), Here("d"), Number(0))
        kinds = {"x": {"c": Number(0), "d": Up("c")}, "y": {"c": zero, "d": Number(0)}, "z": {"c": Here("d"), "d": Least(Number(0), Up("d"))}}
        sheet = Sheet(8, ["c", "d"], {"c": 0, "d": 0}, kinds)
        self.assertEqual(never_followed(sheet), [("y", "c", 2)])
        for kind, column, number in occurrences(sheet):
            told = where_followed(sheet, kind, column, number)
            self.assertEqual(None if told is None else told[1], None if (kind, number) == ("y", 2) else 1)
        self.assertEqual([constant_value(sheet, "c"), constant_value(sheet, "d")], [0, 0])

    def test_a_choice_that_never_chooses(self):
        formula = Choice(Here("a"), (0,), Down("b"), Plus(Up("a"), Here("b")))
        sheet = Sheet.free(2, ["a", "b", "c"], dict.fromkeys("abc", 0),
                           x={"a": Number(1), "b": Number(0), "c": formula}, y={"a": Number(1), "b": Up("a"), "c": Least(Number(0), Down("b"))})
        self.assertEqual(never_followed(sheet), [("x", "c", 2)])
        self.assertIsNone(where_followed(sheet, "x", "c", 2))
        self.assertEqual([where_followed(sheet, "x", "c", number)[1] for number in (1, 4, 5)], [1, 1, 1])
        # Of Least both parts are always worked out.
        self.assertEqual(where_followed(sheet, "y", "c", 2)[1], 1)

    def test_an_occurrence_whose_kind_is_allowed_nowhere(self):
        kinds = {"x": {"a": Up("a")}, "never": {"a": Plus(Here("a"), Down("a"))}}
        sheet = Sheet(2, ["a"], {"a": 1}, kinds, [{"x": 0}])
        self.assertEqual(never_followed(sheet), [("never", "a", 1), ("never", "a", 2)])
        self.assertIsNone(where_followed(sheet, "never", "a", 1))
        self.assertIs(is_followed(sheet, "never", "a", 1, Fill.of("x"), 1), False)

    def test_only_behind_the_top_or_far_down(self):
        row = {"t": Plus(Up("t"), Number(1)), "c": Choice(Up("t"), (7,), Down("t"), Number(0))}
        sheet = Sheet(9, ["t", "c"], {"t": 0, "c": 0}, {"x": row})
        self.assertEqual([where_followed(sheet, "x", "c", 2), never_followed(sheet)], [(Fill.of("x"), 8), []])
        self.assertEqual(where_followed(sheet.with_top(t=7), "x", "c", 2), (Fill.of("x"), 1))
        still = Sheet(9, ["t", "c"], {"t": 0, "c": 0}, {"x": {**row, "t": Up("t")}})
        self.assertEqual(never_followed(still), [("x", "c", 2)])
        self.assertEqual(never_followed(still.with_top(t=7)), [])
        far = slow_counter(0, 2)
        self.assertEqual(where_followed(far, "r", "s", 3), (Fill.of("p", "q", "r"), 27))

    def test_with_the_cuts_of_all_short_words(self):
        sheets = nevers = 0
        rows = set()
        for sheet in full_sheets(range(130)):
            delay = sheet_delay(sheet)
            most = 9 if len(sheet.kinds()) <= 2 else 5
            found = followed_in(sheet, most)
            never = never_followed(sheet)
            nevers += len(never)
            sheets += 1
            self.assertEqual(never, sorted(never))
            for at in occurrences(sheet):
                told = where_followed(sheet, *at)
                self.assertEqual(told is None, at in never)
                if told is None:
                    self.assertNotIn(at, found)
                else:
                    fill, row = told
                    rows.add(row)
                    self.assertIs(is_followed(sheet, *at, fill, row), True)
                    if row + delay <= most:
                        self.assertEqual(found.get(at), row, (str(sheet), at))
                    elif at in found:
                        self.assertLessEqual(row, found[at])
        self.assertTrue(sheets > 60 and nevers > 25 and {1, 2, 3} <= rows, (sheets, nevers, rows))

    def test_open_sheets(self):
        sheet = Sheet.free(2, list("abcd"), dict.fromkeys("abcd", 0),
                           x={"a": Number(0), "b": Down("b"), "c": Here("c"), "d": Number(0)})
        for error in (caught(never_followed, sheet), caught(where_followed, sheet, "x", "b", 0)):
            self.check(error, NotFull, column="b")
            self.assertIsInstance(error, StateError)


class IsFollowedTest(CheckedCase):
    def test_blocks(self):
        sheet, fill = blocks(), Fill.of("item", "item", "end")
        self.assertEqual([is_followed(sheet, "item", "n", 1, fill, row) for row in range(1, 8)],
                         [True, True, False, True, True, False, True])
        self.assertEqual([is_followed(sheet, "end", "u", 2, fill, row) for row in (1, 3, 399, 400)],
                         [False, True, True, False])
        self.assertIs(is_followed(row=1, fill=fill, number=1, column="u", kind="item", sheet=sheet), True)

    def test_sheets_that_are_not_full(self):
        sheet = free_blocks()
        self.assertIs(is_followed(sheet, "item", "n", 1, Fill.of("item"), 1), False)
        self.assertIs(is_followed(sheet, "item", "n", 1, Fill(["item"], ["end"]), 1), True)
        self.assertIs(is_followed(sheet, "item", "u", 1, Fill.of("item"), 1), False)
        # The first reference is worked out, but the cell has none.
        row = {"a": Plus(Number(0), Plus(Here("b"), Down("a"))), "b": Number(1)}
        one = Sheet.free(2, ["a", "b"], {"a": 0, "b": 0}, x=row, e={"a": Number(0), "b": Number(0)})
        self.assertEqual([is_followed(one, "x", "a", 3, Fill(["x"], [turn]), 1) for turn in "xe"], [False, True])

    def test_as_what_the_cuts_of_its_beginnings_work_out(self):
        told = {True: 0, False: 0}
        for seed in range(120):
            sheet, rnd = planned_sheet(seed), random.Random(seed)
            fill = random_fill(sheet, rnd)
            try:
                found = [is_followed(sheet, *at, fill, row) for at in occurrences(sheet) for row in (1, 2, 5)]
            except TooMany:
                continue
            cut = Cut(sheet, fill.first(60))
            rows = [sheet.top(), *[cut.row_values(row) for row in range(1, 8)]]
            right = []
            for kind, column, number in occurrences(sheet):
                for row in (1, 2, 5):
                    looks = sheet.formula(kind, column).met(sheet.modulus, *rows[row - 1:row + 2])
                    right.append(fill.kind_at(row) == kind and rows[row][column] is not None
                                 and number in [node for node, _, _ in looks])
            self.assertEqual(found, right)
            for value in found:
                told[value] += 1
        self.assertGreater(min(told.values()), 100)


class ConstantTest(CheckedCase):
    def test_some_columns(self):
        sheet = Sheet.free(3, list("abcd"), dict(a=2, b=0, c=1, d=0),
                           x={"a": Up("a"), "b": Number(1), "c": Up("c"), "d": Down("b")},
                           y={"a": Up("a"), "b": Number(1), "c": Plus(Up("c"), Number(0)), "d": Number(0)})
        self.assertEqual([constant_value(sheet, column) for column in "abcd"], [2, 1, 1, None])
        self.assertEqual(constant_value(column="a", limit=400, sheet=sheet.with_top(a=0)), 0)
        self.assertEqual([constant_value(blocks(), "n"), constant_value(peek(), "p")], [None, None])
        # The value of a kind that is allowed nowhere does not count, nor does the top.
        kinds = {"x": {"a": Number(1)}, "never": {"a": Number(0)}}
        self.assertEqual(constant_value(Sheet(2, ["a"], {"a": 0}, kinds, [{"x": 0}]), "a"), 1)

    def test_a_value_that_comes_late(self):
        for first, value in ((0, None), (5, None)):
            row = {"t": Plus(Up("t"), Number(1)), "c": Choice(Here("t"), (8,), Number(1), Number(0))}
            self.assertEqual(constant_value(Sheet(9, ["t", "c"], {"t": first, "c": 0}, {"x": row}), "c"), value)
        row = {"t": Most(Up("t"), Number(1)), "c": Choice(Here("t"), (8,), Number(1), Number(0))}
        self.assertEqual(constant_value(Sheet(9, ["t", "c"], {"t": 0, "c": 0}, {"x": row}), "c"), 0)

    def test_with_the_cuts_of_all_short_words(self):
        told = set()
        for sheet in [*map(late_sheet, range(80)), *map(random_sheet, range(40))]:
            most = 8 if len(sheet.kinds()) <= 2 else 5
            try:
                all_delays = delays(sheet)
            except TooMany:
                continue
            shown = {column: set() for column in sheet.columns}
            for word in words_from(sheet, most):
                if len(word) == most:
                    cut = Cut(sheet, word)
                    for row in range(1, most + 1):
                        for column, value in cut.row_values(row).items():
                            shown[column].add(value)
            for column, delay in all_delays.items():
                if delay is None:
                    self.check(caught(constant_value, sheet, column), NotFull, column=column)
                else:
                    value = constant_value(sheet, column)
                    told.add(value)
                    values = shown[column] - {None}
                    if value is not None:
                        self.assertEqual(values, {value})
                    elif len(values) == 1:
                        self.assertGreater(most, 4)
        self.assertTrue({None, 0, 1} <= told)


class ErrorsTest(CheckedCase):
    def test_occurrences(self):
        sheet, fill = blocks(), Fill.of("item")
        for value in (*ODD_VALUES, "z"):
            for call, more in ((where_followed, ()), (is_followed, (fill, 0))):
                named = {"limit": -1} if call is where_followed else {}
                error = caught(call, sheet, value, value, value, *more, **named)
                self.check(error, UnknownKind, value=value)
                self.assertIsInstance(error, MissingError)
                self.check(caught(call, sheet, "end", value, value, *more, **named), UnknownColumn, value=value)
                if value != 0:
                    error = caught(call, sheet, "end", "u", value, *more, **named)
                    self.check(error, InvalidPosition, value=value)
                    self.assertIsInstance(error, SheetError)
        for kind, column, number in (("end", "u", 0), ("end", "u", 3), ("end", "u", -1), ("end", "n", 0), ("item", "n", 2),
                                     ("item", "n", 10 ** 60), ("item", "n", True), ("item", "n", False)):
            self.check(caught(where_followed, sheet, kind, column, number), InvalidPosition, value=number)
            self.check(caught(is_followed, sheet, kind, column, number, fill, 1), InvalidPosition, value=number)
        self.check(caught(where_followed, wide_sheet(), "x", "a", 1, limit=-1), InvalidPosition, value=1)

    def test_fills_and_rows(self):
        sheet = blocks()
        error = caught(is_followed, sheet, "end", "u", 1, Fill.of("item"), 0)
        self.check(error, NotAllowed, row=3)
        self.check(caught(is_followed, sheet, "end", "u", 1, Fill.of("b"), 0), NotAllowed, row=1)
        for value in (*ODD_VALUES, 0, -1, 401, 10 ** 60):
            self.check(caught(is_followed, sheet, "end", "u", 1, Fill.of("end"), value), InvalidRow, value=value)
            self.check(caught(is_followed, wide_sheet(), "x", "a", 0, Fill.of("x"), value), InvalidRow, value=value)
        self.check(caught(is_followed, wide_sheet(), "x", "a", 0, Fill.of("y"), 0), NotAllowed, row=1)
        self.check(caught(is_followed, wide_sheet(), "x", "a", 0, Fill.of("x"), 1), TooMany, what="entries", limit=100)

    def test_limits(self):
        sheet, wide = blocks(), wide_sheet()
        calls = (lambda told, limit: never_followed(told, limit=limit),
                 lambda told, limit: where_followed(told, told.kinds()[0], told.columns[-1], occurrences(told)[-1][2], limit=limit),
                 lambda told, limit: constant_value(told, told.columns[0], limit=limit))
        for call in calls:
            for value in (*ODD_VALUES, -1):
                self.check(caught(call, wide, value), InvalidCount, value=value)
            self.check(caught(call, wide, 0), TooMany, what="entries", limit=100)
            self.check(caught(call, free_blocks(), 2), TooMany, what="tables", limit=2)
            self.check(caught(call, free_blocks(), 3), NotFull, column="n")
            error = caught(call, sheet, 7)
            self.check(error, TooMany, what="tables", limit=7)
            self.assertIsInstance(error, LimitError)
            call(sheet, 8)
        self.check(caught(never_followed, sheet_of_tables(401)), TooMany, what="tables", limit=400)
        self.check(caught(constant_value, sheet_of_tables(401), "a"), TooMany, what="tables", limit=400)
        for value in (*ODD_VALUES, "z"):
            self.check(caught(constant_value, wide, value, limit=-1), UnknownColumn, value=value)
        self.assertEqual(column_delay(sheet_of_tables(400), "a"), None)
        for call in (never_followed, constant_value):
            with self.assertRaises(TypeError):
                call(sheet, "n", 400)


if __name__ == "__main__":
    unittest.main()
