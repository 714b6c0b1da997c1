"""Points [61] to [64]: full papers and open papers, and each of their conditions."""

import random
import unittest
import unittest.mock

from belowneeds.cuts import Cut
from belowneeds.endless import Endless
from belowneeds.errors import InvalidCount, LimitError, MissingError, SheetError, TooMany, UnknownColumn
from belowneeds.fills import Fill
from belowneeds.formulas import Choice, Down, Here, Number, Plus, Up
from belowneeds.fullness import delays, first_open_row
from belowneeds.layers import layer_tables, standings
from belowneeds.papers import full_paper, is_full_paper, is_open_paper, open_paper
from belowneeds.sheets import Sheet
from belowneeds.tables import blank, is_rising, row_under, table_above
from examples import (
    ODD_VALUES, CheckedCase, EqualToAll, blocks, caught, free_blocks, late_sheet, model_aboves, peek, planned_sheet, random_fill,
    long_walk, random_sheet, sheet_of_tables, slow_counter, wide_sheet,
)

NONE, ZERO, ONE = ((None,),) * 3, ((0,),) * 3, ((1,),) * 3


def is_more(out, many):
    return out is None or out > many


def model_full_paper(sheet, column, delay, value):
    """Whether this is a full paper, condition by condition, by the functions of tables.py; only for plain values."""
    listed, standing, word, row = value
    plan, ups = sheet.plan(), sheet.reads("up")
    outs = {(place, table): out for place, table, out in listed}
    if len(outs) < len(listed) or any(not is_rising(sheet, table) or out == 0 for _, table, out in listed):
        return False
    if not all((place, blank(sheet)) in outs for place in range(len(plan))):
        return False
    steps = []
    for other, below, out in listed:
        for place, leads in enumerate(plan):
            for kind, to in leads.items():
                if to == other:
                    over = table_above(sheet, kind, below)
                    more = outs.get((place, over), 0)
                    if more == 0 or (out is None and more is not None) or not (more is None or more >= out + 1):
                        return False
                    steps.append((place, over, kind, other, below, out))
    top = tuple(sheet.top()[name] for name in ups)
    asked = {(0, top, table) for place, table, out in listed if place == 0 and is_more(out, delay + 1)}
    for place, above, table in standing:
        for before, over, kind, other, below, out in steps:
            if (before, over) == (place, table):
                under = row_under(sheet, above, kind, below)
                if is_more(out, delay + 1):
                    asked.add((other, tuple(under[name] for name in ups), below))
                if is_more(out, delay) and under[column] is None:
                    return False
    if asked - set(standing):
        return False
    if delay == 0:
        return word is None and row is None
    if word is None or not sheet.is_word(word) or len(word) > 400 or row not in range(1, len(word) + 1):
        return False
    return len(word) - row >= delay - 1 and Cut(sheet, word).value_at(row, column) is None


def broken_once(paper, rnd):
    """Papers that are changed in one place, which may still be papers or not."""
    listed, standing, word, row = paper
    for at in range(len(listed)):
        place, table, out = listed[at]
        others = [listed[:at] + listed[at + 1:]]
        for told in ((place, table, 1), (place, table, 2), (place, table, None), (place, table, (out or 1) + 1),
                     ((place + 1) % 3, table, out)):
            others.append(listed[:at] + [told] + listed[at + 1:])
        for other in others:
            if all(told[0] < paper_places(listed) for told in other):
                yield (other, standing, word, row)
    for at in range(len(standing)):
        yield (listed, standing[:at] + standing[at + 1:], word, row)
    if word is not None:
        yield (listed, standing, word, row + 1)
        yield (listed, standing, word[:-1], row)
        yield (listed, standing, word + word, row)
    yield (listed, standing, None, None)
    yield (listed[::-1], standing[::-1], word, row)


def paper_places(listed):
    return max(place for place, _, _ in listed) + 1


class FullPaperTest(CheckedCase):
    def test_blocks(self):
        sheet = blocks()
        listed, standing, word, row = full_paper(sheet, "n")
        self.assertEqual([listed, standing], [layer_tables(sheet), standings(sheet, 2)])
        self.assertTrue(is_full_paper(sheet, "n", 2, (listed, standing, ["item", "item"], 1)))
        self.assertTrue(is_full_paper(sheet, "n", 2, full_paper(limit=8, column="n", sheet=sheet)))
        self.assertEqual([type(listed), type(standing), type(word), type(row)], [list, list, list, int])
        self.assertIsNone(full_paper(free_blocks(), "n"))
        self.assertEqual(full_paper(sheet, "u"), full_paper(sheet, "u"))
        full_paper(sheet, "n")[0].clear()
        self.assertEqual(full_paper(sheet, "n")[0], listed)

    def test_a_delay_of_zero_and_of_one(self):
        sheet = peek()
        self.assertEqual(full_paper(sheet, "c")[2:], (None, None))
        self.assertEqual(len(full_paper(sheet, "p")[2]), 1)
        paper, late = full_paper(sheet, "c"), full_paper(sheet, "p")
        self.assertTrue(is_full_paper(sheet, "c", 0, paper))
        self.assertTrue(is_full_paper(sheet, "p", 1, late))
        for value in ((*paper[:2], ["a"], 1), (*paper[:2], None, 1), (*paper[:2], [], None), (*paper[:2], 0, 0)):
            self.assertFalse(is_full_paper(sheet, "c", 0, value))
        self.assertFalse(is_full_paper(sheet, "p", 1, (*late[:2], None, None)))
        self.assertFalse(is_full_paper(sheet, "p", 0, (*late[:2], None, None)))

    def test_its_own_papers_are_accepted_for_this_delay_alone(self):
        found = set()
        for sheet in [*map(late_sheet, range(150)), *map(planned_sheet, range(60)), *map(random_sheet, range(60))]:
            for column, delay in delays(sheet).items():
                paper = full_paper(sheet, column)
                found.add(delay)
                if delay is None:
                    self.assertIsNone(paper)
                else:
                    self.assertIs(is_full_paper(sheet, column, delay, paper), True)
                    self.assertTrue(model_full_paper(sheet, column, delay, paper))
                    for wrong in (delay - 1, delay + 1, delay + 7):
                        if wrong >= 0:
                            self.assertIs(is_full_paper(sheet, column, wrong, paper), False)
                            last = (*paper[:2], None, None)
                            self.assertIs(is_full_paper(sheet, column, wrong, last), False)
        self.assertTrue({None, 0, 1, 2} <= found)

    def test_papers_with_one_thing_changed(self):
        told = {True: 0, False: 0}
        for seed in range(60):
            sheet, rnd = late_sheet(seed), random.Random(seed)
            for column, delay in delays(sheet).items():
                paper = full_paper(sheet, column)
                if delay is not None and len(paper[0]) < 14 and len(paper[1]) < 25:
                    for value in broken_once(paper, rnd):
                        right = model_full_paper(sheet, column, delay, value)
                        self.assertIs(is_full_paper(sheet, column, delay, value), right, (str(sheet), column, value))
                        told[right] += 1
        self.assertGreater(min(told.values()), 100)

    def test_each_single_condition(self):
        sheet = blocks()
        listed, standing, word, row = full_paper(sheet, "n")
        wrong = (
            # A tuple left out, twice, with another out number, one that is not rising, another place.
            (listed[1:], standing, word, row), (listed[:-1], standing, word, row),
            (listed + listed[:1], standing, word, row),
            ([(0, NONE, 2), *listed[1:]], standing, word, row), ([(0, NONE, 0), *listed[1:]], standing, word, row),
            ([(0, NONE, -1), *listed[1:]], standing, word, row), ([(0, NONE, True), *listed[1:]], standing, word, row),
            ([(0, NONE, "3"), *listed[1:]], standing, word, row),
            # Nothing but the form of this out number is wrong.
            ([told if told[:2] != (2, NONE) else (2, NONE, 0) for told in listed], standing, word, row),
            ([told if told[:2] != (2, NONE) else (2, NONE, -1) for told in listed], standing, word, row),
            ([*listed, (0, ((0,), (None,), (None,)), None)], standing, word, row),
            ([*listed, (3, ONE, None)], standing, word, row), ([*listed, (-1, ONE, None)], standing, word, row),
            ([*listed, (False, ONE, None)], standing, word, row), ([*listed, (None, ONE, None)], standing, word, row),
            ([*listed, (2, ONE)], standing, word, row), ([*listed, (2, ONE, None, None)], standing, word, row),
            ([*listed, [2, ONE, None]], standing, word, row), ([*listed, (2, list(ONE), None)], standing, word, row),
            ([*listed, (2, ([1], [1], [1]), None)], standing, word, row), ([*listed, None], standing, word, row),
            ([*listed, (2, ((True,), (1,), (1,)), None)], standing, word, row),
            ([*listed, (2, ((2,), (2,), (2,)), None)], standing, word, row),
            # Standings: left out, of another form.
            (listed, standing[1:], word, row), (listed, [], word, row), (listed, [*standing, (0, (0,))], word, row),
            (listed, [*standing, [0, (0,), ZERO]], word, row), (listed, [*standing, (0, [0], ZERO)], word, row),
            (listed, [*standing, (0, (0,), list(ZERO))], word, row), (listed, [*standing, (3, (0,), ZERO)], word, row),
            (listed, [*standing, (True, (0,), ZERO)], word, row), (listed, [*standing, (0, (False,), ZERO)], word, row),
            (listed, [*standing, (0, (2,), ZERO)], word, row), (listed, [*standing, (0, (), ZERO)], word, row),
            (listed, [*standing, (0, (0,), ((0,), (None,), (None,)))], word, row),
            (listed, [*standing, (0, (0,), ZERO, ZERO)], word, row), (listed, [*standing, None], word, row),
            # The word and the row.
            (listed, standing, ["item", "item"], 2), (listed, standing, ["item", "item"], 0),
            (listed, standing, ["item", "item"], 3), (listed, standing, ["item", "item"], True),
            (listed, standing, ["item", "item"], None), (listed, standing, None, None),
            (listed, standing, ["item"], 1), (listed, standing, ["item"] * 3, 1), (listed, standing, ["end", "end"], 1),
            (listed, standing, "item", 1), (listed, standing, ["item", ["item"]], 1),
            (listed, standing, ["end"] * 399 + ["item", "item"], 400),
            # Another form of the whole.
            [listed, standing, word, row], (listed, standing, word), (listed, standing, word, row, None),
            ({}, standing, word, row), (listed, {}, word, row), (listed, "", word, row), (dict.fromkeys(listed),) * 4,
            (None, standing, word, row), (listed, None, word, row),
        )
        for value in (*wrong, *ODD_VALUES):
            self.assertIs(is_full_paper(sheet, "n", 2, value), False, value)
        # Here the standings lead on by the live table, but the rows are asked for above one more.
        self.assertIs(is_full_paper(sheet, "n", 1, (listed, standing, ["item"], 1)), False)

    def test_more_than_is_needed(self):
        sheet = blocks()
        listed, standing, word, row = full_paper(sheet, "n")
        self.assertGreater(len(standings(sheet, 0)), 0)
        for value in (
            (tuple(listed), tuple(standing), tuple(word), row), (listed[::-1], standing + standing, word, row),
            (listed, standing, ["end"] * 398 + ["item", "item"], 399),
            ([(0, NONE, 9), (1, NONE, 7), (2, NONE, 5), *[told for told in listed if told[1] != NONE]],
             standing + [(0, (None,), ZERO), (0, (1,), ONE)] + standings(sheet, 0), word, row),
            # A standing of which the table is no table of the list.
            (listed, [*standing, (2, (None,), ONE)], word, row),
        ):
            self.assertIs(is_full_paper(sheet, "n", 2, value), model_full_paper(sheet, "n", 2, value))
        self.assertIs(is_full_paper(sheet, "n", 2, (tuple(listed), tuple(standing), tuple(word), row)), True)
        self.assertIs(is_full_paper(sheet, "n", 2, (listed, [*standing, (2, (None,), ONE)], word, row)), True)
        # A table that no word has, with all standings of values.
        row = {"n": Choice(Down("n"), (0,), Number(1), Number(0)), "u": Plus(Up("u"), Here("n"))}
        sheet = Sheet(3, ["n", "u"], {"n": 0, "u": 0}, {"end": rows_of(0), "item": row}, sheet.plan())
        listed, _, word, row = full_paper(sheet, "n")
        more = [*listed, *[(place, ((2,),) * 4, None) for place in range(3)]]
        everything = [(place, above, table) for place in range(3) for above in model_aboves(sheet)[1:]
                      for table in [((0,),) * 4, ((1,),) * 4, ((2,),) * 4]]
        self.assertTrue(model_full_paper(sheet, "n", 2, (more, everything, word, row)))
        self.assertIs(is_full_paper(sheet, "n", 2, (more, everything, word, row)), True)
        self.assertIs(is_full_paper(sheet, "n", 2, (more, everything[:-1], word, row)), False)
        self.assertIs(is_full_paper(sheet, "n", 2, ([*listed, (0, ((2,),) * 4, None)], everything, word, row)), True)

    def test_tables_of_other_places_than_the_first(self):
        rows = {"x": {"n": Number(0), "u": Down("n")}, "y": {"n": Number(1), "u": Down("n")}}
        sheet = Sheet(2, ["n", "u"], {"n": 0, "u": 0}, rows, [{"x": 1}, {"y": 0}])
        listed, standing, word, row = full_paper(sheet, "u")
        none, zero, one = ((None,),), ((0,),), ((1,),)
        self.assertEqual([listed, standing], [[(0, none, 1), (0, zero, None), (1, none, 1), (1, one, None)], [(0, (), zero), (1, (), one)]])
        self.assertIs(is_full_paper(sheet, "u", 1, (listed, standing, word, row)), True)
        self.assertIs(is_full_paper(sheet, "u", 1, (listed, standing[1:], word, row)), False)
        self.assertIs(is_full_paper(sheet, "u", 1, (listed, standing[:1], word, row)), False)
        self.assertEqual(len(standings(sheet, 1)), 2)

    def test_papers_of_other_columns_and_sheets(self):
        sheet, other = blocks(), Sheet.free(2, ["n", "u"], {"n": 0, "u": 0}, end=rows_of(0), item=rows_of(1))
        paper = full_paper(sheet, "n")
        self.assertTrue(is_full_paper(sheet, "u", 2, paper))
        self.assertFalse(is_full_paper(free_blocks(), "n", 2, paper))
        self.assertFalse(is_full_paper(other, "n", 2, paper))
        self.assertFalse(is_full_paper(sheet.with_formula("end", "n", Down("n")), "n", 2, paper))
        self.assertFalse(is_full_paper(sheet.with_formula("end", "n", Here("n")), "n", 2, paper))
        self.assertFalse(is_full_paper(peek(), "p", 2, paper))

    def test_a_great_delay_and_words_of_400_kinds(self):
        for first, place, many in ((80, 2, 242), (28, 2, 398), (27, 0, 399), (27, 1, 400)):
            sheet = slow_counter(first, place)
            self.assertEqual(delays(sheet), {"t": 0, "s": 0, "n": 242})
            paper = full_paper(sheet, "n")
            self.assertEqual([len(paper[2]), paper[3] + 241], [many, many])
            self.assertTrue(is_full_paper(sheet, "n", 242, paper))
            self.assertFalse(is_full_paper(sheet, "n", 241, paper))
            self.assertEqual(full_paper(sheet, "t")[2:], (None, None))

    def test_words_of_more_than_400_kinds(self):
        for first, place in ((27, 2), (26, 0), (0, 1)):
            sheet = slow_counter(first, place)
            error = caught(full_paper, sheet, "n")
            self.check(error, TooMany, what="rows", limit=400)
            self.assertIsInstance(error, LimitError)
            self.check(caught(full_paper, sheet, "n", limit=245), TooMany, what="tables", limit=245)
            self.assertIsNone(open_paper(sheet, "n"))
        # The longer word would show it.
        listed, standing, _, _ = full_paper(slow_counter(80, 2), "n")
        word = list("pqr") * 200
        self.assertIs(is_full_paper(slow_counter(80, 2), "n", 242, (listed, standing, word[:242], 1)), True)
        self.assertIs(is_full_paper(slow_counter(80, 2), "n", 242, (listed, standing, word[:401], 244)), False)

    def test_errors(self):
        for value in (*ODD_VALUES, "z"):
            error = caught(full_paper, blocks(), value, limit=-1)
            self.check(error, UnknownColumn, value=value)
            self.assertIsInstance(error, MissingError)
            self.check(caught(is_full_paper, blocks(), value, -1, None), UnknownColumn, value=value)
            self.check(caught(is_full_paper, wide_sheet(), value, -1, None), UnknownColumn, value=value)
        for value in (*ODD_VALUES, -1):
            error = caught(full_paper, blocks(), "n", limit=value)
            self.check(error, InvalidCount, value=value)
            self.assertIsInstance(error, SheetError)
            self.check(caught(full_paper, wide_sheet(), "a", limit=value), InvalidCount, value=value)
            self.check(caught(is_full_paper, blocks(), "n", value, None), InvalidCount, value=value)
            self.check(caught(is_full_paper, wide_sheet(), "a", value, None), InvalidCount, value=value)
        self.check(caught(full_paper, wide_sheet(), "a", limit=0), TooMany, what="entries", limit=100)
        self.check(caught(is_full_paper, wide_sheet(), "a", 0, None), TooMany, what="entries", limit=100)
        self.check(caught(full_paper, blocks(), "n", limit=7), TooMany, what="tables", limit=7)
        self.check(caught(full_paper, free_blocks(), "n", limit=0), TooMany, what="tables", limit=0)
        self.check(caught(full_paper, sheet_of_tables(401), "a"), TooMany, what="tables", limit=400)
        with self.assertRaises(TypeError):
            full_paper(blocks(), "n", 400)


def rows_of(number):
    return {"n": Number(number), "u": Up("u")}


class OpenPaperTest(CheckedCase):
    def test_the_examples_of_the_document(self):
        free = free_blocks()
        self.assertIs(is_open_paper(free, "n", (Fill.of("item"), [(1, "n"), (2, "n"), (3, "n")], 1, 2)), True)
        self.assertEqual(open_paper(free, "n"), (Fill.of("item"), [(1, "n"), (2, "n")], 1, 1))
        self.assertEqual([open_paper(blocks(), "n"), open_paper(limit=8, sheet=blocks(), column="u")], [None, None])
        open_paper(free, "n")[1].clear()
        self.assertEqual(len(open_paper(free, "n")[1]), 2)

    def test_its_own_papers_are_accepted(self):
        circles = flights = 0
        for sheet in [*map(planned_sheet, range(150)), *map(random_sheet, range(100)), *map(late_sheet, range(60))]:
            try:
                told = delays(sheet)
            except TooMany:
                continue
            for column, delay in told.items():
                paper = open_paper(sheet, column)
                self.assertEqual(paper is None, delay is not None)
                if paper is not None:
                    fill, cells, back, shift = paper
                    self.assertIs(is_open_paper(sheet, column, paper), True)
                    self.assertIs(is_open_paper(sheet, column, (fill, tuple(cells), back, shift)), True)
                    self.assertEqual(cells[0], (first_open_row(sheet, column), column))
                    circles += shift == 0
                    flights += shift > 0
                    for other in sheet.columns:
                        self.assertIs(is_open_paper(sheet, other, paper), other == column)
        self.assertGreater(min(circles, flights), 20)

    def test_as_the_walk_of_the_endless_sheet_in_one_place_other(self):
        told = {True: 0, False: 0}
        for seed in range(120):
            sheet, rnd = planned_sheet(seed), random.Random(seed)
            fill = random_fill(sheet, rnd)
            try:
                endless = Endless(sheet, fill)
            except TooMany:
                continue
            for column in sheet.columns:
                row = endless.first_empty(column)
                if row is not None:
                    cells, back, shift = endless.walk(row, column)
                    for more in (0, 1, 3):
                        longer = [*cells]
                        for _ in range(more):
                            longer.append(endless.next_of(*longer[-1]))
                        for at in range(len(longer)):
                            for moved in sorted({0, 1, endless.period, shift, 2 * shift, 3}):
                                # The last cell's next is the cell at this position, moved down.
                                line, name = longer[at]
                                right = endless.next_of(*longer[-1]) == (line + moved, name)
                                if moved:
                                    right = right and moved % endless.period == 0
                                    right = right and min(other for other, _ in longer[at:]) >= endless.begin
                                value = (fill, longer, at, moved)
                                self.assertIs(is_open_paper(sheet, column, value), right, (str(sheet), value))
                                told[right] += 1
        self.assertGreater(min(told.values()), 200)

    def test_each_single_condition(self):
        sheet = free_blocks()
        fill, cells = Fill.of("item"), [(1, "n"), (2, "n"), (3, "n")]
        right = (
            (fill, cells, 1, 2), (fill, cells[:2], 1, 1), (fill, [(2, "n")], 0, 1), (fill, [(7, "n"), (8, "n")], 0, 2),
            (Fill(["end"], ["item"]), [(3, "n"), (4, "n")], 1, 1), (fill, tuple(cells), 1, 2),
            # The begin of an equal fill, rows up to 10 ** 60, and a way from the last of them.
            (Fill(["item"], ["item"]), [(2, "n")], 0, 1), (fill, [(10 ** 60, "n")], 0, 1),
            (fill, [(10 ** 60 - 1, "n"), (10 ** 60, "n")], 1, 1),
        )
        wrong = (
            (fill, cells, 0, 3), (fill, cells, 0, 2), (fill, cells, 1, 1), (fill, cells, 2, 2), (fill, cells, 3, 1),
            (fill, cells, -1, 1), (fill, cells, True, 2), (fill, cells, None, 2), (fill, cells, 1, None),
            (fill, cells, 1, True), (fill, cells, 1, -2), (fill, cells, 1, 0), (fill, cells, "1", 2),
            (fill, [(1, "n")], 0, 1), (fill, [], 0, 1), (fill, cells[1:] + cells[:1], 1, 2),
            (fill, [(1, "n"), (3, "n")], 1, 2), (fill, [(1, "n"), (3, "n")], 1, 1), (fill, [(1, "n"), (1, "n"), (2, "n")], 2, 1),
            (fill, [(1, "n"), (1, "u"), (2, "n")], 2, 1), (fill, [(1, "n"), (3, "n"), (2, "n"), (3, "n")], 3, 1),
            (fill, [(1, "n"), (2, "z"), (3, "n")], 2, 1), (fill, [(1, "n"), (2, ["n"]), (3, "n")], 2, 1),
            (fill, [(1, "n"), (2, None), (3, "n")], 2, 1), (fill, [(1, EqualToAll()), (2, "n")], 1, 1), (EqualToAll(), cells, 1, 2),
            (fill, EqualToAll(), 1, 2), (fill, cells, EqualToAll(), 2), (fill, cells, 1, EqualToAll()),
            (fill, [(1, "u"), (2, "n")], 1, 1), (fill, [[2, "n"]], 0, 1),
            (fill, [(2, "n", 1)], 0, 1), (fill, [(2,)], 0, 1), (fill, [(2, "z")], 0, 1), (fill, [(2, ["n"])], 0, 1),
            (fill, [("2", "n")], 0, 1), (fill, [(True, "n"), (2, "n")], 1, 1), (fill, [(0, "n")], 0, 1),
            (fill, [(10 ** 60 + 1, "n")], 0, 1), (fill, [(10 ** 60, "n"), (10 ** 60 + 1, "n")], 1, 1),
            (Fill.of("end"), cells, 1, 2), (Fill(["item"], ["end"]), cells, 1, 2), (Fill.of("b"), cells, 1, 2),
            (("item",), cells, 1, 2), (str(fill), cells, 1, 2), (None, cells, 1, 2), (fill, {}, 1, 2),
            (fill, None, 1, 2), (fill, "n", 1, 2), [fill, cells, 1, 2], (fill, cells, 1), (fill, cells, 1, 2, None),
            (Fill(["end", "end"], ["item"]), [(2, "n")], 0, 1),
        )
        for value in right:
            self.assertIs(is_open_paper(sheet, "n", value), True, value)
        for value in (*wrong, *ODD_VALUES):
            self.assertIs(is_open_paper(sheet, "n", value), False, value)

    def test_a_shift_that_is_no_multiple_of_the_period(self):
        row = {"n": Down("n"), "t": Plus(Up("t"), Number(1))}
        sheet = Sheet.free(3, ["n", "t"], {"n": 0, "t": 0}, x=row)
        self.assertEqual([Endless(sheet, Fill.of("x")).period, open_paper(sheet, "n")[3]], [3, 3])
        cells = [(line, "n") for line in range(1, 8)]
        for many in range(1, 7):
            for at in range(many):
                right = many - at in (3, 6)
                self.assertIs(is_open_paper(sheet, "n", (Fill.of("x"), cells[:many], at, many - at)), right)

    def test_a_circle_with_a_repeated_cell(self):
        row = {"a": Here("b"), "b": Here("a"), "c": Here("a")}
        sheet = Sheet.free(2, list("abc"), dict.fromkeys("abc", 0), x=row)
        fill, a, b = Fill.of("x"), (1, "a"), (1, "b")
        for cells, back in (([a, b], 0), ([a, b, a, b], 0), ([a, b, a, b], 2), ([a, b, a], 1), ([a, b] * 1000, 998)):
            self.assertIs(is_open_paper(sheet, "a", (fill, cells, back, 0)), True)
            self.assertIs(is_open_paper(sheet, "a", (fill, cells, back + 1, 0)), False)
        self.assertIs(is_open_paper(sheet, "c", (fill, [(1, "c"), a, b], 1, 0)), True)
        self.assertIs(is_open_paper(sheet, "c", (fill, [(1, "c"), a, b], 0, 0)), False)
        self.assertIs(is_open_paper(sheet, "a", (fill, [a, b] * 1000 + [a], 1, 0)), False)
        self.assertIs(is_open_paper(sheet, "a", (fill, [a, a], 0, 0)), False)

    def test_2000_and_2001_cells(self):
        fill = Fill.of("item")
        for many, right in ((1999, True), (2000, True), (2001, False)):
            cells = [(line, "n") for line in range(1, many + 1)]
            self.assertIs(is_open_paper(free_blocks(), "n", (fill, cells, 7, many - 7)), right)

    def test_cells_with_values(self):
        sheet = Sheet.free(2, ["a", "b"], {"a": 0, "b": 0}, x={"a": Up("b"), "b": Number(0)}, y={"a": Here("a"), "b": Down("a")})
        self.assertIs(is_open_paper(sheet, "a", (Fill.of("y"), [(3, "a")], 0, 0)), True)
        self.assertIs(is_open_paper(sheet, "a", (Fill.of("x"), [(3, "a")], 0, 0)), False)
        self.assertIs(is_open_paper(sheet, "b", (Fill.of("y"), [(3, "b"), (4, "a")], 1, 0)), True)
        self.assertIs(is_open_paper(sheet, "b", (Fill.of("y", "x"), [(3, "b"), (4, "a")], 1, 0)), False)

    def test_limits(self):
        # z is 8 rows below a row that shows 8, and its walk is told by many cells.
        row = {"c": Plus(Up("c"), Number(1)), "n": Choice(Here("c"), (8,), Here("n"), Number(1))}
        late = Sheet(9, ["c", "n"], {"c": 0, "n": 0}, {"x": row})
        self.assertEqual([open_paper(late, "n")[1][0], open_paper(late, "c")], [(8, "n"), None])
        with unittest.mock.patch("belowneeds.papers.MAX_ROWS", 8):
            self.assertEqual(open_paper(late, "n")[1][0], (8, "n"))
        with unittest.mock.patch("belowneeds.papers.MAX_ROWS", 7):
            self.check(caught(open_paper, late, "n"), TooMany, what="rows", limit=7)
            with unittest.mock.patch("belowneeds.papers.MAX_CELLS", 0):
                self.check(caught(open_paper, late, "n"), TooMany, what="rows", limit=7)

    def test_long_walks(self):
        sheet = long_walk()
        self.assertEqual(first_open_row(sheet, "z"), 1)
        paper = open_paper(sheet, "z")
        many = len(paper[1])
        self.assertEqual([is_open_paper(sheet, "z", paper), paper[3], many >= 729], [True, 243, True])
        with unittest.mock.patch("belowneeds.papers.MAX_CELLS", many):
            self.assertEqual(open_paper(sheet, "z"), paper)
        with unittest.mock.patch("belowneeds.papers.MAX_CELLS", many - 1):
            self.check(caught(open_paper, sheet, "z"), TooMany, what="cells", limit=many - 1)

    def test_errors(self):
        for value in (*ODD_VALUES, "z"):
            self.check(caught(open_paper, blocks(), value, limit=-1), UnknownColumn, value=value)
            self.check(caught(is_open_paper, blocks(), value, None), UnknownColumn, value=value)
            self.check(caught(is_open_paper, wide_sheet(), value, None), UnknownColumn, value=value)
        for value in (*ODD_VALUES, -1):
            self.check(caught(open_paper, free_blocks(), "n", limit=value), InvalidCount, value=value)
        self.check(caught(open_paper, wide_sheet(), "a", limit=0), TooMany, what="entries", limit=100)
        self.check(caught(is_open_paper, wide_sheet(), "a", None), TooMany, what="entries", limit=100)
        self.check(caught(open_paper, free_blocks(), "n", limit=2), TooMany, what="tables", limit=2)
        self.assertIsNotNone(open_paper(free_blocks(), "n", limit=3))
        with self.assertRaises(TypeError):
            open_paper(free_blocks(), "n", 400)


if __name__ == "__main__":
    unittest.main()
