"""The whole program: what its files promise together, and of one another's objects ([2], [4] and the overview)."""

import copy
import itertools
import random
import unittest

from belowneeds.alike import (
    alike_paper, are_alike, change_told, first_unlike, is_alike_paper, is_unlike_paper, joint_tables,
)
from belowneeds.cuts import Cut
from belowneeds.desk import Desk
from belowneeds.endless import Endless
from belowneeds.errors import InvalidCommand, InvalidText, TooMany, UnknownColumn
from belowneeds.filling import Filler
from belowneeds.fills import Fill, first_refused
from belowneeds.followed import constant_value, never_followed, where_followed
from belowneeds.formulas import Formula, Number, Plus, Up
from belowneeds.fullness import column_delay, delays, first_open_row, late_word, open_fill, sheet_delay
from belowneeds.judge import certificate_of, is_certificate
from belowneeds.layers import layer_tables, standings, still_from, ways, word_of
from belowneeds.lengths import Lengths, word_counts
from belowneeds.machines import from_machine, machine_of
from belowneeds.papers import full_paper, is_full_paper, is_open_paper, open_paper
from belowneeds.sheets import Sheet
from belowneeds.tables import blank, entries, is_rising, is_table, table_above, table_of
from belowneeds.texts import read_fill, read_sheet
from examples import (
    CheckedCase, EqualToAll, blocks, caught, free_blocks, late_sheet, peek, planned_sheet, random_fill, random_sheet, sheet_of_tables, words_from,
)
from test_alike import pair_of_sheets


def usable(sheets):
    """Those of the sheets that have not too many aboves."""
    for sheet in sheets:
        try:
            entries(sheet)
            yield sheet
        except TooMany:
            pass


def all_told(sheet):
    """Much of what the program tells of a sheet, as one list."""
    told = [str(sheet), repr(sheet), layer_tables(sheet), still_from(sheet), standings(sheet, 0), standings(sheet, 2), delays(sheet), blank(sheet)]
    told.append([(first_open_row(sheet, column), late_word(sheet, column), str(open_fill(sheet, column))) for column in sheet.columns])
    for place, table, _ in layer_tables(sheet)[:5]:
        told.append((ways(sheet, place, table), word_of(sheet, place, table)))
    for word in words_from(sheet, 2):
        told.append((table_of(sheet, word), [Cut(sheet, word).row_values(row) for row in range(1, len(word) + 1)], Cut(sheet, word).rounds))
    told.append([word_counts(sheet, dict.fromkeys(sheet.columns, 1), column, 3) for column in sheet.columns])
    if sheet_delay(sheet) is not None:
        told.append((never_followed(sheet), [constant_value(sheet, column) for column in sheet.columns]))
        told.append([are_alike(sheet, column, sheet, other) for column in sheet.columns for other in sheet.columns])
        if sheet_delay(sheet) <= 3:
            told.append(machine_of(sheet).states)
    for column, delay in delays(sheet).items():
        told.append(full_paper(sheet, column) if delay is not None else str(open_paper(sheet, column)))
    return told


class ObjectsTest(CheckedCase):
    def test_a_sheet_that_is_read_changed_and_asked(self):
        for seed in range(25):
            for sheet in usable([late_sheet(seed), planned_sheet(seed), random_sheet(seed)]):
                rnd = random.Random(seed)
                desk = Desk()
                desk.do("put s " + str(sheet)[:-1].replace("\n", " | "))
                kind, column = rnd.choice(sheet.kinds()), rnd.choice(sheet.columns)
                formula = Plus(Up(column), Number(1))
                desk.do_all(f"formula s {kind} {column} {formula}", f"top s {column} 1")
                changed = sheet.with_formula(kind, column, formula).with_top(**{column: 1})
                self.assertEqual(all_told(desk.sheet_of("s")), all_told(changed))
                self.assertEqual(all_told(read_sheet(desk.do("show s").replace(" | ", "\n") + "\n")), all_told(changed))
                desk.do_all("undo", "undo")
                self.assertEqual(all_told(desk.sheet_of("s")), all_told(sheet))

    def test_rows_by_cuts_fillers_machines_and_endless_sheets(self):
        machines = 0
        for seed in range(60):
            for sheet in usable([late_sheet(seed), planned_sheet(seed), random_sheet(seed)]):
                rnd = random.Random(seed)
                fill = random_fill(sheet, rnd)
                word = fill.first(14)
                cut, endless, filler = Cut(sheet, word), Endless(sheet, read_fill(str(fill))), Filler(read_sheet(str(sheet)))
                given = filler.take_all(*word)
                self.assertEqual(given, [cut.row_values(row) for row in range(1, len(given) + 1)])
                self.assertEqual([endless.row_values(row) for row in range(1, len(given) + 1)], given)
                self.assertEqual([filler.given + filler.held, filler.word], [14, tuple(word)])
                delay = sheet_delay(sheet)
                if delay is not None:
                    self.assertLessEqual(filler.held, delay)
                    self.assertEqual(list(endless.rows(3)), [endless.row_values(row) for row in (1, 2, 3)])
                    if delay <= 3:
                        machines += 1
                        rows = from_machine(machine_of(sheet), word)
                        self.assertEqual(rows, [tuple(row.values()) for row in given[:14 - delay]])
        self.assertGreater(machines, 40)

    def test_far_rows_are_what_row_by_row_would_come_to(self):
        for seed in range(40):
            for sheet in usable([late_sheet(seed), planned_sheet(seed)]):
                fill = random_fill(sheet, random.Random(seed))
                endless = Endless(sheet, fill)
                for row in (10 ** 20, 10 ** 60):
                    near = endless.begin + (row - endless.begin) % endless.period
                    self.assertEqual(endless.row_values(row), endless.row_values(near))
                    self.assertEqual(endless.true_table(row), endless.true_table(row - len(fill.turn)))
                    self.assertEqual(fill.kind_at(row), fill.behind(row - 1).kind_at(1))
        # The sum of the first n numbers, modulo 9.
        sheet = Sheet(9, ["c", "s"], {"c": 0, "s": 0}, {"x": {"c": Up("c") + 1, "s": Plus(Up("s"), Up("c"))}})
        far = 10 ** 60
        self.assertEqual(Endless(sheet, Fill.of("x")).row_values(far), {"c": far % 9, "s": far * (far - 1) // 2 % 9})

    def test_open_columns_by_what_all_files_tell(self):
        for seed in range(60):
            for sheet in usable([planned_sheet(seed), random_sheet(seed)]):
                for column, delay in delays(sheet).items():
                    if delay is None:
                        fill, cells, back, shift = open_paper(sheet, column)
                        self.assertEqual(Endless(sheet, fill).first_empty(column), first_open_row(sheet, column))
                        self.assertIsNone(first_refused(sheet, fill))
                        self.assertTrue(is_certificate(("not full", sheet, column), (fill, cells, back, shift)))
                        self.assertIsNone(certificate_of(("full", sheet, column, 0)))

    def test_lengths_of_full_columns_are_those_of_the_endless_sheet(self):
        compared = 0
        for seed in range(60):
            sheet = late_sheet(seed)
            words = [word for word in words_from(sheet, 3) if word and sheet.place_behind(word) == 0]
            for word in words[:3]:
                for column, delay in delays(sheet).items():
                    if delay is not None:
                        compared += 1
                        foot = dict.fromkeys(sheet.columns, 0)
                        self.assertEqual(Lengths(sheet, word, foot, column).value_for(delay + 1), Endless(sheet, Fill([], word)).value_at(1, column))
        self.assertGreater(compared, 60)

    def test_constant_columns_are_alike_to_a_constant(self):
        told = set()
        for seed in range(120):
            for sheet in usable([late_sheet(seed), random_sheet(seed)]):
                for column, delay in delays(sheet).items():
                    if delay is not None:
                        right = None
                        for value in range(sheet.modulus):
                            kinds = {kind: {"k": Number(value)} for kind in sheet.kinds()}
                            if are_alike(sheet, column, Sheet(9, ["k"], {"k": 0}, kinds, sheet.plan()), "k"):
                                right = value
                        self.assertEqual(constant_value(sheet, column), right)
                        told.add(right)
        self.assertTrue({None, 0, 1} <= told)

    def test_one_machine(self):
        # Equal machines: the same delay, the same words, the same rows.
        told = {True: 0, False: 0}
        for seed in range(250):
            one, other = pair_of_sheets(seed)
            if one.columns == other.columns and max(sheet_delay(one) or 0, sheet_delay(other) or 0) <= 3:
                if None not in (sheet_delay(one), sheet_delay(other)):
                    same = sheet_delay(one) == sheet_delay(other)
                    for column in one.columns:
                        same = same and are_alike(one, column, other, column)
                    self.assertEqual(machine_of(one) == machine_of(other), same)
                    told[same] += 1
        self.assertGreater(min(told.values()), 20)
        # The words count, too.
        sheet = Sheet.free(2, ["a"], {"a": 0}, x={"a": Number(0)}, y={"a": Number(0)})
        less = Sheet(2, ["a"], {"a": 0}, {"x": {"a": Number(0)}, "y": {"a": Number(0)}}, [{"x": 0}])
        twice = Sheet(2, ["a"], {"a": 0}, {"x": {"a": Number(0)}, "y": {"a": Number(0)}}, [{"x": 1, "y": 0}, {"x": 0, "y": 1}])
        self.assertEqual([machine_of(sheet) == machine_of(less), machine_of(sheet) == machine_of(twice)], [False, True])

    def test_what_never_is_followed_can_be_replaced(self):
        replaced = 0
        for seed in range(150):
            sheet = late_sheet(seed)
            if sheet_delay(sheet) is not None:
                for kind, column, number in never_followed(sheet):
                    formula = sheet.formula(kind, column).put(number, Number(1))
                    self.assertEqual(change_told(sheet, kind, column, formula, column), "alike")
                    self.assertIsNone(where_followed(sheet, kind, column, number))
                    replaced += 1
        self.assertGreater(replaced, 10)


class ConventionsTest(CheckedCase):
    def test_queries_are_repeated_and_change_nothing(self):
        for seed in range(30):
            for sheet in usable([late_sheet(seed), planned_sheet(seed)]):
                before = copy.deepcopy(sheet)
                first = all_told(sheet)
                self.assertEqual([all_told(sheet), sheet], [first, before])
                # What was asked of a sheet before has no effect on a new one that is equal.
                self.assertEqual(all_told(before), first)
                self.assertEqual(all_told(read_sheet(str(sheet))), first)

    def test_returned_lists_and_dicts_are_new(self):
        sheet = blocks()
        zero, foot = table_above(sheet, "end", blank(sheet)), {"n": 0, "u": 0}
        desk = Desk()
        desk.do("put b " + str(sheet)[:-1].replace("\n", " | "))
        calls = (
            lambda: layer_tables(sheet), lambda: standings(sheet, 1), lambda: ways(sheet, 0, zero), lambda: word_of(sheet, 0, zero), lambda: delays(sheet),
            lambda: entries(sheet), lambda: joint_tables(sheet, sheet), lambda: machine_of(peek()).states[0], lambda: machine_of(peek()).run(["a", "b"]),
            lambda: full_paper(sheet, "n")[0], lambda: full_paper(sheet, "n")[1], lambda: full_paper(sheet, "n")[2], lambda: open_paper(free_blocks(), "n")[1],
            lambda: alike_paper(sheet, "n", sheet, "n")[0], lambda: alike_paper(sheet, "n", sheet, "n")[1], lambda: late_word(sheet, "n")[0],
            lambda: word_counts(sheet, foot, "n", 2), lambda: desk.names(), lambda: desk.log(), lambda: sheet.top(), lambda: sheet.plan(), lambda: sheet.plan()[0],
            lambda: Cut(sheet, ["end"], foot=foot).foot, lambda: Cut(sheet, ["end"]).cells_met(1, "u"), lambda: Endless(sheet, Fill.of("end")).row_values(2),
        )
        for call in calls:
            first = call()
            self.assertTrue(first)
            first.clear()
            self.assertTrue(call())
        self.assertIsInstance(never_followed(sheet), list)

    def test_what_was_found_for_one_limit_is_right_for_others(self):
        for many in (5, 18, 30):
            sheet = sheet_of_tables(many)
            limits = [0, many - 1, many, many + 1, many - 1, 400, 1, many, 0, 10 ** 60]
            random.Random(many).shuffle(limits)
            for limit in limits:
                for call in (layer_tables, still_from, delays, lambda told, limit: standings(told, 2, limit=limit),
                             lambda told, limit: ways(told, 0, blank(told), limit=limit), lambda told, limit: word_of(told, 0, blank(told), limit=limit)):
                    if limit < many:
                        self.check(caught(call, sheet, limit=limit), TooMany, what="tables", limit=limit)
                    else:
                        self.assertEqual(call(sheet, limit=limit), call(sheet_of_tables(many), limit=400))
        one, other = sheet_of_tables(17), sheet_of_tables(19)
        pairs = len(joint_tables(one, other))
        for limit in (3, pairs - 1, pairs, 2, pairs - 1, 1500):
            if limit < pairs:
                self.check(caught(joint_tables, one, other, pairs=limit), TooMany, what="pairs", limit=limit)
            else:
                self.assertEqual(joint_tables(one, other, pairs=limit), joint_tables(sheet_of_tables(17), sheet_of_tables(19)))

    def test_a_sheet_is_compared_with_several_others_in_turn(self):
        sheet = blocks()
        others = [sheet, sheet.with_top(u=1), sheet.with_formula("end", "n", Number(1)), blocks()]
        for first, second in itertools.product(others, repeat=2):
            for column in "nu":
                new = (read_sheet(str(first)), column, read_sheet(str(second)), column)
                self.assertEqual(are_alike(first, column, second, column), are_alike(*new))
                self.assertEqual(first_unlike(first, column, second, column), first_unlike(*new))
                if are_alike(*new):
                    self.assertTrue(is_alike_paper(first, column, second, column, alike_paper(*new)))

    def test_papers_of_one_sheet_fit_an_equal_one(self):
        for seed in range(40):
            for sheet in usable([late_sheet(seed), planned_sheet(seed)]):
                same = read_sheet(str(sheet))
                for column, delay in delays(sheet).items():
                    if delay is None:
                        self.assertTrue(is_open_paper(same, column, open_paper(sheet, column)))
                    else:
                        self.assertTrue(is_full_paper(same, column, delay, full_paper(sheet, column)))

    def test_values_that_say_they_are_equal_to_all(self):
        sheet, odd = blocks(), EqualToAll()
        listed, standing, word, row = full_paper(sheet, "n")
        pairs, joint = alike_paper(sheet, "n", sheet, "n")
        for value in (odd, (odd,) * 4, (odd, standing, word, row), (listed, odd, word, row), (listed, standing, odd, row), (listed, standing, word, odd),
                      ([odd, *listed], standing, word, row), ([(odd, *listed[0][1:]), *listed[1:]], standing, word, row),
                      ([(*listed[0][:2], odd), *listed[1:]], standing, word, row), ([(0, odd, 3), *listed[1:]], standing, word, row),
                      (listed, [*standing, odd], word, row), (listed, [*standing, (0, odd, standing[0][2])], word, row),
                      (listed, [*standing, (0, (odd,), standing[0][2])], word, row), (listed, standing, [odd, odd], row)):
            self.assertIs(is_full_paper(sheet, "n", 2, value), False)
        for value in (odd, (odd, odd), (odd, joint), (pairs, odd), ([*pairs, odd], joint), (pairs, [*joint, odd]), (pairs, [*joint, (odd,) * 5])):
            self.assertIs(is_alike_paper(sheet, "n", sheet, "n", value), False)
        self.assertEqual([is_table(sheet, odd), is_rising(sheet, (odd,) * 3), is_rising(sheet, ((odd,),) * 3), sheet.is_word(odd), sheet.is_word([odd])],
                         [False] * 5)
        self.assertEqual([is_unlike_paper(sheet, "n", sheet, "u", (odd, 2)), is_certificate(("full", sheet, "n", 2), odd), odd in Desk()], [False] * 3)
        for call in (lambda: column_delay(sheet, odd), lambda: Cut(sheet, ["end"]).value_at(1, odd), lambda: full_paper(sheet, odd), lambda: constant_value(sheet, odd),
                     lambda: is_alike_paper(sheet, "n", sheet, odd, None)):
            self.assertIs(type(caught(call)), UnknownColumn)
        self.assertIs(type(caught(Desk().do, odd)), InvalidCommand)

    def test_texts_stay_within_what_they_say(self):
        for seed in range(30):
            sheet = planned_sheet(seed)
            for kind in sheet.kinds():
                for column in sheet.columns:
                    self.assertEqual(Formula.read(str(sheet.formula(kind, column))), sheet.formula(kind, column))
            self.check(caught(read_sheet, str(sheet)[:-1]), InvalidText, line=str(sheet).count("\n"))


if __name__ == "__main__":
    unittest.main()
