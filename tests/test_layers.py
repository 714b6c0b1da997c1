"""Points [43] and [44]: layers of tables, their out numbers and words, and standings."""

import unittest
import unittest.mock

from belowneeds.errors import (
    InvalidCount, InvalidTable, LimitError, TooMany, UnknownPlace,
)
from belowneeds.formulas import Down, Here, Number, Up
from belowneeds.layers import layer_tables, standings, still_from, ways, word_of
from belowneeds.sheets import Sheet
from belowneeds.table_numbers import TableNumbers
from belowneeds.tables import blank, entries, row_under, table_above, table_of
from examples import (
    ODD_VALUES, CheckedCase, blocks, caught, free_blocks, late_sheet, model_table, none_first, planned_sheet,
    sheet_of_tables, words_from,
)

NONE, ZERO, ONE = ((None,),) * 3, ((0,),) * 3, ((1,),) * 3
WRONG_COUNTS = (*ODD_VALUES, -1)


def model_layers(sheet, most):
    """For each place, a dict from the tables of words of at most so many kinds to these words."""
    found = []
    for place in range(sheet.places):
        tables = {}
        for word in words_from(sheet, most, place):
            tables.setdefault(model_table(sheet, word), []).append(word)
        found.append(tables)
    return found


def counter(modulus, kinds):
    """A sheet with three columns: each of the first three kinds adds 1 to one of them, the last one begins anew."""
    rows = {kind: {column: Down(column) for column in "abc"} for kind in kinds}
    for kind, column in zip(kinds, "abc"):
        rows[kind][column] = Down(column) + 1
    rows[kinds[3]] = dict.fromkeys("abc", Number(0))
    return Sheet(modulus, list("abc"), dict.fromkeys("abc", 0), rows)


class LayerTablesTest(CheckedCase):
    def test_the_example_of_the_interface(self):
        sheet = blocks()
        zero = table_above(sheet, "end", blank(sheet))
        self.assertEqual([(place, table[0], out) for place, table, out in layer_tables(sheet)],
                         [(0, (None,), 3), (0, (0,), None), (0, (1,), None), (1, (None,), 2), (1, (0,), None),
                          (1, (1,), None), (2, (None,), 1), (2, (0,), None)])
        self.assertEqual([still_from(sheet), word_of(sheet, 1, table_above(sheet, "item", zero)),
                          word_of(sheet, 2, blank(sheet))], [3, ["item", "end"], []])

    def test_the_free_plan(self):
        sheet = free_blocks()
        self.assertEqual([layer_tables(sheet), still_from(sheet)],
                         [[(0, NONE, None), (0, ZERO, None), (0, ONE, None)], 0])

    def test_without_columns_that_are_read(self):
        no_down = Sheet(2, ["a"], {"a": 1}, {"x": {"a": Up("a")}}, [{"x": 1}, {"x": 0}])
        live = ((), (), ())
        self.assertEqual([layer_tables(no_down), still_from(no_down), ways(no_down, 0, live), word_of(no_down, 1, live)],
                         [[(0, live, None), (1, live, None)], 0, [("x", 1, live)], []])
        self.assertEqual(standings(no_down, 5), [(0, (1,), live), (1, (1,), live)])
        no_up = Sheet(2, ["a"], {"a": 1}, {"x": {"a": Down("a")}, "e": {"a": Number(0)}})
        self.assertEqual(layer_tables(no_up), [(0, ((None,),), None), (0, ((0,),), None)])
        self.assertEqual(standings(no_up, 0), [(0, (), ((None,),)), (0, (), ((0,),))])

    def test_as_the_tables_of_all_short_words(self):
        outs = 0
        for sheet in [*map(planned_sheet, range(40)), *map(late_sheet, range(25))]:
            tables = layer_tables(sheet)
            longest = max(len(word_of(sheet, place, table)) for place, table, _ in tables)
            most = max(longest, still_from(sheet)) + 1
            if len(sheet.kinds()) ** most <= 300:
                model = model_layers(sheet, most)
                told = {(place, table) for place, table, _ in tables}
                self.assertEqual(told, {(place, table) for place in range(sheet.places) for table in model[place]})
                self.assertEqual(tables, sorted(tables, key=none_first))
                for place, table, out in tables:
                    words = model[place][table]
                    self.assertEqual(word_of(sheet, place, table), min(words, key=lambda word: (len(word), word)))
                    self.assertEqual(max(map(len, words)), most if out is None else out - 1)
                    outs += out is not None
                self.assertEqual(still_from(sheet), max([out or 0 for _, _, out in tables]))
        self.assertGreater(outs, 20)

    def test_just_as_many_as_the_limit(self):
        sheet = blocks()
        for limit in (8, 9, 400, 10 ** 60):
            self.assertEqual(layer_tables(sheet, limit=limit), layer_tables(sheet))
        for limit in (7, 1, 0):
            for call in (lambda: layer_tables(sheet, limit=limit), lambda: still_from(sheet, limit=limit),
                         lambda: ways(sheet, 0, NONE, limit=limit), lambda: word_of(sheet, 0, NONE, limit=limit),
                         lambda: standings(sheet, 0, limit=limit)):
                error = caught(call)
                self.check(error, TooMany, what="tables", limit=limit)
                self.assertIsInstance(error, LimitError)

    def test_hundreds_of_tables(self):
        for many in (342, 343, 344, 399, 400):
            sheet = sheet_of_tables(many)
            self.assertEqual(len(layer_tables(sheet)), many)
            self.assertEqual(len(standings(sheet, 3)), many)
        self.check(caught(layer_tables, sheet_of_tables(401)), TooMany, what="tables", limit=400)
        self.check(caught(layer_tables, sheet, limit=399), TooMany, what="tables", limit=399)
        self.assertEqual(len(layer_tables(sheet_of_tables(500), limit=500)), 500)
        last = layer_tables(sheet)[-1][1]
        self.assertEqual(len(word_of(sheet, 0, last)), 1 + sum(digit * 9 ** at for at, digit in enumerate(last[0])))


class KeptTest(CheckedCase):
    def test_rows_are_worked_out_once_for_a_sheet(self):
        for sheet, limit in ((sheet_of_tables(120), 400), (sheet_of_tables(500), 400), (late_sheet(7), 400), (sheet_of_tables(60), 59)):
            with unittest.mock.patch.object(TableNumbers, "row_of", autospec=True, side_effect=TableNumbers.row_of) as work:
                counts = []
                for _ in range(2):
                    for call in (still_from, layer_tables, lambda told, limit: ways(told, 0, blank(told), limit=limit),
                                 lambda told, limit: word_of(told, 0, blank(told), limit=limit)):
                        try:
                            call(sheet, limit=limit)
                        except TooMany as error:
                            self.check(error, TooMany, what="tables", limit=limit)
                        counts.append(work.call_count)
                self.assertEqual(counts, counts[:1] * 8)
                self.assertGreater(counts[0], 0)

    def test_it_is_gone_on_with_what_was_found_for_a_lesser_limit(self):
        sheet = sheet_of_tables(500)
        for limit in (0, 100, 499, 100, 500, 499, 700):
            if limit < 500:
                self.check(caught(layer_tables, sheet, limit=limit), TooMany, what="tables", limit=limit)
            else:
                self.assertEqual(layer_tables(sheet, limit=limit), layer_tables(sheet_of_tables(500), limit=limit))

    def test_too_many_tables_are_seen_before_most_of_them_are_made(self):
        for kinds in (("pa", "pb", "pc", "r"), ("s", "t", "u", "a"), ("x", "b", "z", "y")):
            sheet = counter(8, kinds)
            with unittest.mock.patch.object(TableNumbers, "row_of", autospec=True, side_effect=TableNumbers.row_of) as work:
                self.check(caught(layer_tables, sheet), TooMany, what="tables", limit=400)
                # There are 4 for each table that was found, if all that stands above each is asked for.
                self.assertLess(work.call_count, 900)
            told = layer_tables(sheet, limit=513)
            self.assertEqual([len(told), told == layer_tables(counter(8, kinds), limit=900)], [513, True])
            for _, table, _ in told[::40]:
                word = word_of(sheet, 0, table, limit=513)
                self.assertEqual(len(word), 0 if None in table[0] else 1 + sum(table[0]))

    def test_what_is_returned_can_be_changed(self):
        sheet = blocks()
        told = [layer_tables(sheet), standings(sheet, 2), ways(sheet, 0, ZERO), word_of(sheet, 0, ONE)]
        for one in told:
            one.clear()
        self.assertEqual([layer_tables(sheet), standings(sheet, 2), ways(sheet, 0, ZERO), word_of(sheet, 0, ONE)],
                         [layer_tables(blocks()), standings(blocks(), 2), ways(blocks(), 0, ZERO), ["item", "end"]])


class WaysTest(CheckedCase):
    def test_blocks(self):
        sheet = blocks()
        self.assertEqual(ways(sheet, 0, ZERO), [("end", 0, NONE), ("end", 0, ZERO), ("end", 0, ONE), ("item", 1, ONE)])
        self.assertEqual([ways(sheet, 2, NONE), ways(sheet, 1, NONE), ways(table=ONE, place=2, sheet=sheet)],
                         [[], [("item", 2, NONE)], []])
        self.assertEqual(ways(sheet, 0, ((None,), (0,), (0,))), [])

    def test_by_the_tables_above_all_tables(self):
        for sheet in [*map(planned_sheet, range(30)), *map(late_sheet, range(20))]:
            tables = layer_tables(sheet)
            for place, table, _ in tables:
                told = [(kind, other, below) for kind, other in sheet.plan()[place].items()
                        for at, below, _ in tables if at == other and table_above(sheet, kind, below) == table]
                self.assertEqual(ways(sheet, place, table), sorted(told, key=none_first))

    def test_words_have_the_tables(self):
        for sheet in map(late_sheet, range(40)):
            for place, table, _ in layer_tables(sheet):
                word = word_of(sheet, place, table)
                self.assertIs(type(word), list)
                self.assertEqual(table_of(sheet, word, place=place), table)

    def test_the_first_of_the_shortest_words(self):
        # Only the second kind decides, and the first one has several tables below it.
        kinds = {"a": {"p": Number(0), "q": Down("p")}, "b": {"p": Number(1), "q": Down("p")}, "c": {"p": Down("q"), "q": Number(0)}}
        sheet = Sheet(2, ["p", "q"], {"p": 0, "q": 0}, kinds)
        self.assertEqual(word_of(sheet, 0, ((0, 1),)), ["a", "b"])
        self.assertEqual(word_of(sheet, 0, ((1, 0),)), ["b", "a"])
        self.assertEqual(word_of(sheet, 0, ((None, 0),)), ["c"])
        self.assertIsNone(word_of(sheet, 0, ((None, 1),)))
        self.assertEqual(word_of(blocks(), 0, ((1,), (1,), (1,))), ["item", "end"])
        self.assertIsNone(word_of(blocks(), 2, ONE))


class StandingsTest(CheckedCase):
    def test_blocks(self):
        sheet = blocks()
        self.assertEqual(standings(sheet, 3), [
            (0, (0,), ZERO), (0, (0,), ONE), (0, (1,), ZERO), (0, (1,), ONE), (1, (0,), ZERO), (1, (0,), ONE),
            (1, (1,), ZERO), (1, (1,), ONE), (2, (0,), ZERO), (2, (1,), ZERO),
        ])
        self.assertEqual(standings(sheet, 3), standings(many=2, sheet=sheet))
        self.assertEqual(standings(sheet, 3), standings(sheet, 10 ** 60))
        self.assertEqual(set(standings(sheet, 0)) - set(standings(sheet, 1)), {(1, (None,), NONE)})

    def test_by_the_least_set_of_the_document(self):
        for sheet in [*map(planned_sheet, range(25)), *map(late_sheet, range(20))]:
            tables = layer_tables(sheet)
            ups = sheet.reads("up")
            for many in range(still_from(sheet) + 2):
                layer = [(place, table) for place, table, out in tables if out is None or out > many + 1]
                over = tuple(sheet.top()[column] for column in ups)
                found = {(0, over, table) for place, table in layer if place == 0}
                last = None
                while last != found:
                    last = set(found)
                    for place, above, table in last:
                        for kind, other in sheet.plan()[place].items():
                            for at, below in layer:
                                if at == other and table_above(sheet, kind, below) == table:
                                    row = row_under(sheet, above, kind, below)
                                    found.add((other, tuple(row[column] for column in ups), below))
                self.assertEqual(standings(sheet, many), sorted(found, key=none_first))

    def test_the_top_begins(self):
        sheet = blocks().with_top(u=1)
        self.assertIn((0, (1,), ONE), standings(sheet, 2))
        only = Sheet(3, ["a", "b"], {"a": 2, "b": 1}, {"x": {"a": Up("a"), "b": Here("a")}})
        self.assertEqual(standings(only, 0), [(0, (2,), ((),) * 4)])


class ErrorsTest(CheckedCase):
    def test_limits(self):
        sheet = blocks()
        for value in WRONG_COUNTS:
            self.check(caught(layer_tables, sheet, limit=value), InvalidCount, value=value)
            self.check(caught(still_from, sheet, limit=value), InvalidCount, value=value)
            self.check(caught(ways, sheet, 0, NONE, limit=value), InvalidCount, value=value)
            self.check(caught(word_of, sheet, 0, NONE, limit=value), InvalidCount, value=value)
            self.check(caught(standings, sheet, 0, limit=value), InvalidCount, value=value)
            self.check(caught(standings, sheet, value, limit=-5), InvalidCount, value=value)
        for call, parts in ((layer_tables, ()), (still_from, ()), (ways, (0, NONE)), (word_of, (0, NONE)), (standings, (0,))):
            with self.assertRaises(TypeError):
                call(sheet, *parts, 400)

    def test_places_and_tables(self):
        for call in (ways, word_of):
            for value in (*ODD_VALUES, -1, 3):
                self.check(caught(call, blocks(), value, None, limit=None), UnknownPlace, value=value)
            for value in (*ODD_VALUES, list(ZERO), ((0,),), ((0,), (1,), (1,)), ((None,), (2,), (0,)), ((None,), (True,), (0,))):
                self.check(caught(call, blocks(), 0, value, limit=None), InvalidTable, value=value)

    def test_too_many_entries(self):
        row = {column: Up(column) for column in "abcde"}
        sheet = Sheet(2, list("abcde"), dict.fromkeys("abcde", 0), {"x": row})
        self.assertEqual(caught(entries, sheet).what, "entries")
        for call in (lambda: layer_tables(sheet, limit=0), lambda: still_from(sheet, limit=0),
                     lambda: ways(sheet, 0, None, limit=None), lambda: word_of(sheet, 0, None, limit=None),
                     lambda: standings(sheet, 0, limit=0)):
            self.check(caught(call), TooMany, what="entries", limit=100)
        self.check(caught(layer_tables, sheet, limit=None), InvalidCount, value=None)
        self.check(caught(still_from, sheet, limit=True), InvalidCount, value=True)
        self.check(caught(ways, sheet, 1, None), UnknownPlace, value=1)
        self.check(caught(word_of, sheet, 1, None), UnknownPlace, value=1)
        self.check(caught(standings, sheet, -1, limit=None), InvalidCount, value=-1)
        self.check(caught(standings, sheet, 0, limit=None), InvalidCount, value=None)


if __name__ == "__main__":
    unittest.main()
