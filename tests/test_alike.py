"""Points [71] to [73]: columns that are alike, joint layers, and the papers for both answers."""

import random
import unittest
import unittest.mock

from belowneeds.alike import (
    alike_paper, are_alike, change_told, first_unlike, is_alike_paper, is_unlike_paper, joint_tables,
)
from belowneeds.cuts import Cut
from belowneeds.endless import Endless
from belowneeds.errors import (
    InvalidCount, InvalidKinds, LimitError, MissingError, NotFull, OtherPlan, StateError, TooMany, UnknownColumn,
    UnknownKind,
)
from belowneeds.fills import Fill, first_refused
from belowneeds.formulas import Choice, Down, Here, Most, Number, Plus, Up
from belowneeds.fullness import delays
from belowneeds.layers import layer_tables
from belowneeds.rows_under import rows_of
from belowneeds.sheets import Sheet
from belowneeds.table_numbers import TableNumbers
from belowneeds.tables import blank, is_rising, row_under, table_above, table_of
from examples import (
    ODD_VALUES, PLANS, CheckedCase, blocks, caught, free_blocks, late_sheet, levelled_formula, none_first, parts_of, peek,
    sheet_of_tables, slow_counter, wide_sheet, words_from,
)

WITH_COLUMNS = (are_alike, first_unlike, alike_paper)
CHECKS = (is_alike_paper, is_unlike_paper)


def sheet_with_plan(rnd, plan):
    """A sheet like a late one, with this plan."""
    modulus, columns = rnd.choice([2, 2, 3]), ["a", "b", "c"][:rnd.randrange(1, 3)]
    kinds = {"e": {}, "x": {}}
    for position, column in enumerate(columns):
        beside = [Up(columns[0]), *[Here(other) for other in columns[:position]]]
        kinds["e"][column] = levelled_formula(rnd, 1, modulus, beside)
        kinds["x"][column] = levelled_formula(rnd, 1, modulus, beside + [Down(other) for other in columns])
    return Sheet(modulus, columns, {column: rnd.randrange(modulus) for column in columns}, kinds, plan)


def pair_of_sheets(seed):
    """Two sheets with the same plan: one and the same with a change, or two other ones."""
    rnd = random.Random(seed)
    if seed % 2:
        plan = rnd.choice(PLANS)
        return sheet_with_plan(rnd, plan), sheet_with_plan(rnd, plan)
    sheet = late_sheet(seed)
    kind, column = rnd.choice(sheet.kinds()), rnd.choice(sheet.columns)
    formula = sheet.formula(kind, column)
    if rnd.randrange(2):
        return sheet, sheet.with_formula(kind, column, Most(formula, Number(0)))
    number = rnd.randrange(len(formula))
    return sheet, sheet.with_formula(kind, column, formula.put(number, rnd.choice([Number(0), Number(1), Up(column)])))


def full_pairs(seeds):
    """Tuples (one, column, other, other column) of full columns."""
    for seed in seeds:
        one, other = pair_of_sheets(seed)
        for column, delay in delays(one).items():
            for other_column, other_delay in delays(other).items():
                if delay is not None and other_delay is not None:
                    yield one, column, other, other_column, max(delay, other_delay)


def least_different(one, column, other, other_column, most):
    """The least row in which both cells have different values in the cuts of all words of at most so many kinds."""
    rows = []
    for word in words_from(one, most):
        if len(word) == most:
            first, second = Cut(one, word), Cut(other, word)
            for row in range(1, most + 1):
                values = (first.value_at(row, column), second.value_at(row, other_column))
                if None not in values and values[0] != values[1]:
                    rows.append(row)
    return min(rows, default=None)


def model_alike_paper(one, column, other, other_column, value):
    """Whether this is an alike paper, condition by condition, by the functions of tables.py."""
    listed, standing = value
    plan, ups, other_ups = one.plan(), one.reads("up"), other.reads("up")
    outs = {told[:3]: told[3] for told in listed}
    if len(outs) < len(listed):
        return False
    if any(not is_rising(one, told[1]) or not is_rising(other, told[2]) or told[3] == 0 for told in listed):
        return False
    if any((place, blank(one), blank(other)) not in outs for place in range(len(plan))):
        return False
    steps = []
    for to, below, other_below, out in listed:
        for place, leads in enumerate(plan):
            for kind in [kind for kind, end in leads.items() if end == to]:
                over = (place, table_above(one, kind, below), table_above(other, kind, other_below))
                more = outs.get(over, 0)
                if more == 0 or (more is not None and (out is None or more < out + 1)):
                    return False
                if out is None:
                    steps.append((over, kind, to, below, other_below))
    tops = (tuple(one.top()[name] for name in ups), tuple(other.top()[name] for name in other_ups))
    asked = {(0, *tops, *told[1:3]) for told in listed if told[0] == 0 and told[3] is None}
    for place, above, other_above, table, other_table in standing:
        for over, kind, to, below, other_below in steps:
            if over == (place, table, other_table):
                first = row_under(one, above, kind, below)
                second = row_under(other, other_above, kind, other_below)
                asked.add((to, tuple(first[name] for name in ups), tuple(second[name] for name in other_ups), below,
                           other_below))
                values = (first[column], second[other_column])
                if None not in values and values[0] != values[1]:
                    return False
    return not asked - set(standing)


class AlikeTest(CheckedCase):
    def test_the_examples_of_the_interface(self):
        sheet = blocks()
        self.assertEqual([change_told(sheet, "end", "n", Number(1), "n"), first_unlike(sheet, "n", sheet, "u")[0]],
                         ["unlike", 2])
        self.assertEqual([change_told(sheet, "end", "n", Down("u"), "n"), are_alike(sheet, "u", sheet, "u")],
                         ["not full", True])

    def test_blocks(self):
        sheet = blocks()
        row, fill, value, other = first_unlike(other_column="u", other=sheet, column="n", one=sheet)
        self.assertEqual([row, type(fill), value == other], [2, Fill, False])
        self.assertEqual([Endless(sheet, fill).value_at(2, "n"), Endless(sheet, fill).value_at(2, "u")], [value, other])
        self.assertIs(are_alike(sheet, "n", sheet, "u"), False)
        self.assertIs(are_alike(sheet, "n", sheet, "n", limit=8, pairs=8), True)
        self.assertEqual([first_unlike(sheet, "n", sheet, "n"), alike_paper(sheet, "n", sheet, "u")], [None, None])
        self.assertEqual(alike_paper(sheet, "n", sheet, "n"), alike_paper(sheet, "n", sheet, "n"))
        alike_paper(sheet, "n", sheet, "n")[0].clear()
        self.assertTrue(is_alike_paper(sheet, "n", sheet, "n", alike_paper(sheet, "n", sheet, "n")))

    def test_with_the_cuts_of_all_short_words(self):
        alike, rows = 0, set()
        for one, column, other, other_column, delay in full_pairs(range(260)):
            most = 8 if len(one.kinds()) < 3 else 5
            least = least_different(one, column, other, other_column, most)
            told = first_unlike(one, column, other, other_column)
            self.assertIs(are_alike(one, column, other, other_column), told is None)
            if told is None:
                self.assertIsNone(least)
                alike += 1
            else:
                row, fill, value, other_value = told
                rows.add(row)
                self.assertIsNone(first_refused(one, fill))
                self.assertEqual(Endless(one, fill).value_at(row, column), value)
                self.assertEqual(Endless(other, fill).value_at(row, other_column), other_value)
                self.assertNotEqual(value, other_value)
                if row + delay <= most:
                    self.assertEqual(row, least)
                elif least is not None:
                    self.assertLess(row, least)
        self.assertTrue(alike > 60 and {1, 2, 3} <= rows, (alike, rows))

    def test_a_late_first_unlike_row(self):
        for first in (0, 3, 7):
            # c counts to 8, and only then d shows 1.
            row = {"c": Plus(Up("c"), Number(1)), "d": Choice(Here("c"), (8,), Number(1), Number(0))}
            one = Sheet(9, ["c", "d"], {"c": first, "d": 0}, {"x": row})
            other = Sheet(2, ["d"], {"d": 0}, {"x": {"d": Number(0)}})
            self.assertEqual(first_unlike(one, "d", other, "d"), (8 - first, Fill.of("x"), 1, 0))
            self.assertEqual(first_unlike(other, "d", one, "d"), (8 - first, Fill.of("x"), 0, 1))

    def test_a_first_unlike_row_far_down(self):
        one = slow_counter(80, 2)
        other = one.with_formula("r", "n", Choice(Here("t"), (8,), Choice(Here("s"), (8,), Number(2), Down("n")), Down("n")))
        self.assertEqual([first_unlike(one, "n", other, "n")[0], first_unlike(one, "t", other, "t")], [1, None])
        done = one.with_formula("p", "t", Choice(Up("s"), (7,), Number(0), Up("t")))
        self.assertEqual(first_unlike(one, "t", done, "t")[0], 3 * 65 + 1)

    def test_different_moduli_columns_and_kinds(self):
        plan = [{"x": 0, "e": 0}]
        one = Sheet(2, ["a"], {"a": 1}, {"x": {"a": Number(1)}, "e": {"a": Number(0)}, "never": {"a": Here("a")}}, plan)
        rows = {"x": {"p": Up("q"), "b": Plus(Number(4), Number(4)), "q": Number(0)}, "e": dict.fromkeys("pbq", Number(0))}
        other = Sheet(7, ["p", "b", "q"], dict.fromkeys("pbq", 5), rows, plan)
        self.assertIs(are_alike(one, "a", other, "b"), True)
        self.assertEqual(first_unlike(one, "a", other, "p")[0], 1)
        self.assertTrue(is_alike_paper(one, "a", other, "b", alike_paper(one, "a", other, "b")))
        more = other.with_formula("x", "b", Number(6))
        row, fill, value, other_value = first_unlike(one, "a", more, "b")
        self.assertEqual([row, fill.kind_at(1), value, other_value], [1, "x", 1, 6])

    def test_an_open_column_beside_a_full_one(self):
        row = {"f": Up("f"), "o": Down("o")}
        one = Sheet.free(2, ["f", "o"], {"f": 1, "o": 0}, x=row)
        other = Sheet.free(3, ["g"], {"g": 1}, x={"g": Number(1)})
        self.assertIs(are_alike(one, "f", other, "g"), True)
        for call in WITH_COLUMNS:
            error = caught(call, one, "o", other, "g")
            self.check(error, NotFull, column="o")
            self.assertIsInstance(error, StateError)
            self.check(caught(call, other, "g", one, "o"), NotFull, column="o")
            self.check(caught(call, one, "o", one, "o"), NotFull, column="o")
        two = Sheet.free(2, ["p"], {"p": 0}, x={"p": Down("p")})
        self.check(caught(are_alike, one, "o", two, "p"), NotFull, column="o")
        self.check(caught(are_alike, two, "p", one, "o"), NotFull, column="p")


class JointTest(CheckedCase):
    def test_blocks(self):
        sheet = blocks()
        told = [(place, table, table, out) for place, table, out in layer_tables(sheet)]
        self.assertEqual(joint_tables(sheet, sheet), told)
        self.assertEqual(joint_tables(other=sheet, one=sheet, pairs=8), told)

    def test_with_the_tables_of_all_short_words(self):
        many = 0
        for seed in range(70):
            one, other = pair_of_sheets(seed)
            told = joint_tables(one, other)
            self.assertEqual(told, sorted(told, key=none_first))
            most = len(told) + 1
            if len(one.kinds()) ** most <= 600:
                many += 1
                for place in range(one.places):
                    model = {}
                    for word in words_from(one, most, place):
                        pair = (table_of(one, word, place=place), table_of(other, word, place=place))
                        model[pair] = max(model.get(pair, 0), len(word))
                    found = {pair[1:3]: pair[3] for pair in told if pair[0] == place}
                    # A pair of a word with as many kinds as there are pairs comes again for ever.
                    self.assertEqual(found, {pair: None if length == most else length + 1
                                             for pair, length in model.items()})
        self.assertGreater(many, 15)

    def test_out_numbers_by_the_layers_of_the_document(self):
        for seed in range(60):
            one, other = pair_of_sheets(seed)
            told = joint_tables(one, other)
            layer = {pair[:3] for pair in told}
            outs, number = {}, 0
            while layer:
                number += 1
                left = {(place, table_above(one, kind, table), table_above(other, kind, more))
                        for to, table, more in layer for place, leads in enumerate(one.plan())
                        for kind, end in leads.items() if end == to}
                self.assertTrue(left <= layer)
                if left == layer:
                    break
                outs.update({pair: number for pair in layer - left})
                layer = left
            self.assertEqual({pair[:3]: pair[3] for pair in told}, {**outs, **{pair: None for pair in layer}})

    def test_pairs_can_be_more_than_tables(self):
        one, other = peek(), peek().with_formula("a", "c", Number(1)).with_formula("b", "c", Number(0))
        self.assertEqual(len(joint_tables(one, other)), 3)
        two = peek().with_formula("b", "c", Choice(Down("c"), (0,), Number(1), Number(0)))
        self.assertGreater(len(joint_tables(one, two)), len(layer_tables(two)))

    def test_errors(self):
        sheet = blocks()
        for value in (*ODD_VALUES, -1):
            self.check(caught(joint_tables, sheet, sheet, pairs=value), InvalidCount, value=value)
            self.check(caught(joint_tables, sheet, free_blocks(), pairs=value), OtherPlan)
            self.check(caught(joint_tables, wide_sheet(), wide_sheet(), pairs=value), InvalidCount, value=value)
        for pairs in (7, 1, 0):
            error = caught(joint_tables, sheet, sheet, pairs=pairs)
            self.check(error, TooMany, what="pairs", limit=pairs)
            self.assertIsInstance(error, LimitError)
        one = Sheet.free(2, ["a"], {"a": 0}, x={"a": Number(0)})
        for first, second in ((wide_sheet(), one), (one, wide_sheet())):
            self.check(caught(joint_tables, first, second, pairs=0), TooMany, what="entries", limit=100)
        # There are 1,500 pairs at the most, if nothing else is passed.
        many = sheet_of_tables(600), sheet_of_tables(601)
        self.check(caught(joint_tables, *many), TooMany, what="pairs", limit=1500)
        self.assertEqual(len(joint_tables(many[0], many[0])), 600)


class PapersTest(CheckedCase):
    def test_its_own_papers_are_accepted_and_are_as_the_document_says(self):
        told = {True: 0, False: 0}
        for one, column, other, other_column, _ in full_pairs(range(160)):
            paper = alike_paper(one, column, other, other_column)
            told[paper is not None] += 1
            self.assertEqual(paper is not None, are_alike(one, column, other, other_column))
            if paper is not None:
                self.assertIs(is_alike_paper(one, column, other, other_column, paper), True)
                self.assertTrue(model_alike_paper(one, column, other, other_column, paper))
                self.assertEqual([type(part) for part in (paper, *paper)], [tuple, list, list])
            else:
                row, fill, _, _ = first_unlike(one, column, other, other_column)
                self.assertIs(is_unlike_paper(one, column, other, other_column, (fill, row)), True)
                self.assertIs(is_unlike_paper(other, other_column, one, column, (fill, row)), True)
                # No paper of other columns of these sheets is one for these.
                found = [alike_paper(one, name, other, other_name)
                         for name in one.columns for other_name in other.columns
                         if delays(one)[name] is not None and delays(other)[other_name] is not None]
                for wrong in found:
                    if wrong is not None:
                        self.assertIs(is_alike_paper(one, column, other, other_column, wrong), False)
        self.assertGreater(min(told.values()), 40)

    def test_papers_with_one_thing_changed(self):
        told = {True: 0, False: 0}
        for one, column, other, other_column, _ in full_pairs(range(60)):
            paper = alike_paper(one, column, other, other_column)
            if paper is not None and len(paper[0]) < 10 and len(paper[1]) < 12:
                listed, standing = paper
                values = [(listed, standing[:at] + standing[at + 1:]) for at in range(len(standing))]
                for at, (*pair, out) in enumerate(listed):
                    values.append((listed[:at] + listed[at + 1:], standing))
                    for more in (1, 2, None, (out or 0) + 1):
                        values.append((listed[:at] + [(*pair, more)] + listed[at + 1:], standing))
                for value in values:
                    right = model_alike_paper(one, column, other, other_column, value)
                    self.assertIs(is_alike_paper(one, column, other, other_column, value), right)
                    told[right] += 1
        self.assertGreater(min(told.values()), 100)

    def test_each_single_condition(self):
        sheet = blocks()
        listed, standing = alike_paper(sheet, "n", sheet, "n")
        none, zero, one = ((None,),) * 3, ((0,),) * 3, ((1,),) * 3
        first = listed[0]
        self.assertEqual(first, (0, none, none, 3))
        right = (
            (tuple(listed), tuple(standing)), (listed[::-1], standing + standing),
            ([*listed, (2, one, one, None)], [*standing, *[(2, (at,), (at,), one, one) for at in (0, 1)]]),
            # Standings of pairs that are no pairs of the list.
            (listed, [*standing, (2, (None,), (1,), one, zero)]),
        )
        wrong = (
            (listed[1:], standing), (listed + [first], standing), (listed, standing[1:]), (listed, []),
            ([(0, none, none, 2), *listed[1:]], standing), ([(0, none, none, 0), *listed[1:]], standing),
            ([(0, none, none, True), *listed[1:]], standing), ([(False, none, none, 3), *listed[1:]], standing),
            ([(3, none, none, 3), *listed[1:]], standing), ([(0, none, 3), *listed[1:]], standing),
            ([list(first), *listed[1:]], standing), ([*listed, None], standing),
            ([*listed, (0, one, list(one), None)], standing), ([*listed, (0, ((True,),) * 3, one, None)], standing),
            ([*listed, (0, one, ((0,), (None,), (None,)), None)], standing),
            ([*listed, (0, ((0,), (None,), (None,)), one, None)], standing),
            (listed, [*standing, (0, (0,), (0,), zero)]), (listed, [*standing, [0, (0,), (0,), zero, zero]]),
            (listed, [*standing, (0, [0], (0,), zero, zero)]), (listed, [*standing, (0, (0,), (2,), zero, zero)]),
            (listed, [*standing, (0, (0,), (False,), zero, zero)]), (listed, [*standing, (4, (0,), (0,), zero, zero)]),
            (listed, [*standing, (0, (0,), (0,), zero, list(zero))]), (listed, [*standing, None]),
            [listed, standing], (listed,), (listed, standing, None), ({}, standing), (listed, {}), (None, None),
            # This standing leads to rows with different values.
            (listed + [(0, zero, one, None)], standing + [(0, (0,), (0,), zero, one)]),
        )
        for value in right:
            self.assertIs(is_alike_paper(sheet, "n", sheet, "n", value), True, value)
            self.assertTrue(model_alike_paper(sheet, "n", sheet, "n", value))
        for value in (*wrong, *ODD_VALUES):
            self.assertIs(is_alike_paper(sheet, "n", sheet, "n", value), False, value)
        self.assertIs(is_alike_paper(sheet, "n", sheet, "u", (listed, standing)), False)

    def test_columns_that_are_not_full(self):
        # None beside a value is no difference.
        one = Sheet.free(2, ["o"], {"o": 0}, x={"o": Down("o")})
        other = Sheet.free(2, ["g"], {"g": 1}, x={"g": Number(1)})
        paper = ([(0, ((None,),), ((),), None)], [(0, (), (), ((None,),), ((),))])
        self.assertIs(is_alike_paper(one, "o", other, "g", paper), True)
        turned = ([(0, ((),), ((None,),), None)], [(0, (), (), ((),), ((None,),))])
        self.assertIs(is_alike_paper(other, "g", one, "o", turned), True)
        self.assertIs(is_unlike_paper(one, "o", other, "g", (Fill.of("x"), 1)), False)
        self.assertIs(is_unlike_paper(other, "g", one, "o", (Fill.of("x"), 1)), False)
        late = Sheet.free(2, ["o"], {"o": 0}, x={"o": Down("o")}, e={"o": Number(0)})
        more = Sheet.free(2, ["g"], {"g": 1}, x={"g": Number(1)}, e={"g": Number(0)})
        self.assertIs(is_unlike_paper(late, "o", more, "g", (Fill(["x"], ["e"]), 1)), True)
        self.assertIs(is_unlike_paper(late, "o", more, "g", (Fill(["e"], ["x"]), 1)), False)
        self.assertIs(is_unlike_paper(late, "o", more, "g", (Fill(["e"], ["x"]), 2)), False)

    def test_unlike_papers(self):
        sheet = blocks()
        fill = Fill(["item"], ["end"])
        for value, right in (
            ((fill, 2), True), ((fill, 1), False), ((fill, 400), True), ((fill, 401), False), ((fill, 0), False),
            ((fill, True), False), ((fill, None), False), ((fill, "2"), False), ([fill, 2], False), ((fill,), False),
            ((fill, 2, 2), False), ((str(fill), 2), False), ((None, 2), False), ((Fill.of("item"), 2), False),
            ((Fill.of("end"), 2), False), ((Fill.of("b"), 2), False), ((2, fill), False),
        ):
            self.assertIs(is_unlike_paper(sheet, "n", sheet, "u", value), right, value)
        for value in ODD_VALUES:
            self.assertIs(is_unlike_paper(sheet, "n", sheet, "u", value), False)


class ChangeTest(CheckedCase):
    def test_with_formula_and_are_alike(self):
        told = []
        for seed in range(120):
            rnd, sheet = random.Random(seed), late_sheet(seed)
            kind, column, seen = rnd.choice(sheet.kinds()), rnd.choice(sheet.columns), rnd.choice(sheet.columns)
            formula = levelled_formula(rnd, 1, sheet.modulus, [Down(column), Up(column), Here(seen), Number(0)])
            if rnd.randrange(3) == 0:
                formula = Most(sheet.formula(kind, column), Number(0))
            changed = sheet.with_formula(kind, column, formula)
            if delays(sheet)[seen] is None:
                self.check(caught(change_told, sheet, kind, column, formula, seen), NotFull, column=seen)
            else:
                told.append(change_told(sheet, kind, column, formula, seen))
                if delays(changed)[seen] is None:
                    self.assertEqual(told[-1], "not full")
                else:
                    right = "alike" if are_alike(sheet, seen, changed, seen) else "unlike"
                    self.assertEqual(told[-1], right)
        self.assertGreater(min(map(told.count, ("alike", "unlike", "not full"))), 8)

    def test_errors(self):
        sheet, formula = blocks(), Number(0)
        for value in (*ODD_VALUES, "z"):
            self.check(caught(change_told, sheet, value, value, value, value, limit=-1), UnknownKind, value=value)
            self.check(caught(change_told, sheet, "end", value, value, value, limit=-1), UnknownColumn, value=value)
            self.check(caught(change_told, sheet, "end", "n", value, value, limit=-1), InvalidKinds, kind="end", column="n")
            self.check(caught(change_told, sheet, "end", "n", formula, value, limit=-1), UnknownColumn, value=value)
        self.check(caught(change_told, sheet, "end", "n", Number(2), "z"), InvalidKinds, kind="end", column="n")
        self.check(caught(change_told, sheet, "end", "n", Up("z"), "z"), InvalidKinds, kind="end", column="n")
        for value in (*ODD_VALUES, -1):
            self.check(caught(change_told, sheet, "end", "n", formula, "n", limit=value, pairs=None), InvalidCount, value=value)
            self.check(caught(change_told, sheet, "end", "n", formula, "n", limit=0, pairs=value), InvalidCount, value=value)
        few = Sheet.free(9, ["a", "b", "c"], dict.fromkeys("abc", 0), x={"a": Up("a"), "b": Up("b"), "c": Down("c")})
        self.check(caught(change_told, few, "x", "c", Up("c"), "c", limit=0), TooMany, what="entries", limit=100)
        self.check(caught(change_told, wide_sheet(), "x", "a", Number(0), "a", limit=0), TooMany, what="entries", limit=100)
        # The sheet has 3 tables, the changed one 2 tables; there are 3 pairs.
        free = free_blocks()
        self.check(caught(change_told, free, "end", "n", Down("n"), "n", limit=2, pairs=0), TooMany, what="tables", limit=2)
        self.check(caught(change_told, free, "end", "n", Down("n"), "n", limit=3, pairs=2), TooMany, what="pairs", limit=2)
        self.check(caught(change_told, free, "end", "n", Down("n"), "u", limit=3, pairs=3), NotFull, column="u")
        small = free.with_formula("end", "n", Down("n"))
        self.check(caught(change_told, small, "end", "n", formula, "n", limit=2, pairs=0), TooMany, what="tables", limit=2)
        self.check(caught(change_told, small, "end", "n", formula, "n", limit=3, pairs=2), TooMany, what="pairs", limit=2)
        self.check(caught(change_told, small, "end", "n", formula, "n", limit=3, pairs=3), NotFull, column="n")
        self.assertEqual(sheet, blocks())


def made_anew(sheet):
    """An equal sheet of which nothing was asked."""
    kinds = {kind: {column: sheet.formula(kind, column) for column in sheet.columns} for kind in sheet.kinds()}
    return Sheet(sheet.modulus, sheet.columns, sheet.top(), kinds, sheet.plan())


def answer(call, *values, **named):
    """What a call returns, or the error that it raises with its attributes."""
    try:
        return call(*values, **named)
    except (LimitError, StateError) as error:
        return type(error), parts_of(error)


class KeptTest(CheckedCase):
    """What is kept with sheets, and what they have in common, changes no answer."""

    def test_sheets_that_differ_in_one_thing(self):
        row = {"a": Down("b"), "b": Plus(Down("a"), Number(1)), "c": Up("c")}
        parts = {"modulus": 2, "columns": ["a", "b", "c"], "top": {"a": 0, "b": 0, "c": 0}, "kinds": {"x": row, "e": dict.fromkeys("abc", Number(0))}}
        one = Sheet(**parts)
        for changes in (
            {"modulus": 3}, {"modulus": 7}, {"columns": ["b", "a", "c"]}, {"columns": ["c", "b", "a"]}, {"top": {"a": 1, "b": 1, "c": 1}},
            {"kinds": {"x": {**row, "a": Down("c")}, "e": parts["kinds"]["e"]}}, {"kinds": {"x": {**row, "b": Up("b")}, "e": parts["kinds"]["e"]}},
            {"kinds": {"x": {**row, "c": Number(1)}, "e": parts["kinds"]["e"]}}, {"kinds": {"x": parts["kinds"]["e"], "e": row}}, {},
        ):
            other = Sheet(**{**parts, **changes})
            for first, second in ((one, other), (other, one)):
                told = joint_tables(first, second)
                self.assertEqual(told, joint_tables(made_anew(first), made_anew(second)))
                for word in words_from(first, 4):
                    self.assertIn((0, table_of(first, word), table_of(second, word)), [pair[:3] for pair in told])
                for sheet in (first, second):
                    self.assertEqual(layer_tables(sheet), layer_tables(made_anew(sheet)))
                    self.assertEqual(delays(sheet), delays(made_anew(sheet)))

    def test_in_any_sequence_as_of_sheets_made_anew(self):
        done = 0
        for seed in range(40):
            rnd, (one, other) = random.Random(seed), pair_of_sheets(seed)
            calls = [(call, one, rnd.choice(one.columns), other, rnd.choice(other.columns)) for call in (are_alike, first_unlike, alike_paper)]
            calls = [*calls, *[(call, two, column, one, column) for call, two, column, *_ in calls], (joint_tables, one, other), (joint_tables, other, one)]
            for kind in one.kinds():
                for column in one.columns:
                    for formula in (Number(0), Up(column), Down(column)):
                        calls.append((change_told, one, kind, column, formula, rnd.choice(one.columns)))
            rnd.shuffle(calls)
            for call, *values in calls + calls[:9]:
                pairs = rnd.choice([1500, 1500, 8, 3])
                right = answer(call, *[made_anew(value) if isinstance(value, Sheet) else value for value in values], pairs=pairs)
                self.assertEqual(answer(call, *values, pairs=pairs), right)
                done += 1
        self.assertGreater(done, 800)

    def test_a_change_is_worked_out_once_and_only_for_its_kind(self):
        rows = {kind: {column: Down(column) for column in "ab"} for kind in ("p", "q", "r", "s")}
        rows["p"]["a"], rows["q"]["b"], rows["r"]["a"], rows["s"]["b"] = Down("a") + 1, Down("b") + 1, Number(0), Number(0)
        sheet = Sheet(7, ["a", "b"], {"a": 0, "b": 0}, rows)
        with unittest.mock.patch.object(TableNumbers, "row_of", autospec=True, side_effect=TableNumbers.row_of) as work:
            self.assertEqual(len(layer_tables(sheet)), 64)
            many = work.call_count
            for formula, more in ((Down("a") + 1, 64), (Down("a") + 1, 0), (Down("a") + 2, 64), (Down("a") + 1, 64), (Down("a") + 1, 0)):
                self.check(caught(change_told, sheet, "q", "a", formula, "a", pairs=200), TooMany, what="pairs", limit=200)
                many += more
                self.assertEqual(work.call_count, many)

    def test_tables_are_not_had_in_common_without_end(self):
        for most, many in ((5, 6), (10000, 10)):
            # Rows x need the rows below them for ever, and show what the next row e does.
            sheet = Sheet.free(9, ["a"], {"a": 0}, x={"a": Down("a")}, e={"a": Number(0)})
            with unittest.mock.patch("belowneeds.rows_under.MOST_SHARED", most):
                for number in range(9):
                    self.check(caught(change_told, sheet, "e", "a", Number(number), "a"), NotFull, column="a")
            self.assertEqual(len(rows_of(sheet).numbers.tables), many)
            self.assertEqual(len(layer_tables(sheet)), 2)

    def test_what_is_returned_can_be_changed(self):
        sheet = blocks()
        told = [joint_tables(sheet, sheet), *alike_paper(sheet, "n", sheet, "n")]
        copies = [list(one) for one in told]
        for one in told:
            one.clear()
        self.assertEqual([joint_tables(sheet, sheet), *alike_paper(sheet, "n", sheet, "n")], copies)


class ErrorsTest(CheckedCase):
    def test_columns(self):
        for value in (*ODD_VALUES, "z"):
            for call in WITH_COLUMNS:
                error = caught(call, blocks(), value, free_blocks(), value, limit=-1, pairs=-1)
                self.check(error, UnknownColumn, value=value)
                self.assertIsInstance(error, MissingError)
                self.check(caught(call, blocks(), "n", free_blocks(), value, limit=-1), UnknownColumn, value=value)
            for call in CHECKS:
                self.check(caught(call, blocks(), value, free_blocks(), 5, None), UnknownColumn, value=value)
                self.check(caught(call, blocks(), "n", free_blocks(), value, None), UnknownColumn, value=value)
        self.check(caught(are_alike, blocks(), "z", blocks(), "y"), UnknownColumn, value="z")
        self.check(caught(are_alike, blocks(), "n", peek(), "n"), UnknownColumn, value="n")

    def test_plans(self):
        sheet = blocks()
        for place, change in ((0, {"item": 2, "end": 0}), (1, {"item": 2, "end": 1}), (2, {"end": 0, "item": 0})):
            plan = sheet.plan()
            plan[place] = change
            kinds = {kind: {column: sheet.formula(kind, column) for column in "nu"} for kind in sheet.kinds()}
            other = Sheet(2, ["n", "u"], {"n": 0, "u": 0}, kinds, plan) if place else None
            if other is not None:
                for call in WITH_COLUMNS:
                    error = caught(call, sheet, "n", other, "n", limit=-1, pairs=-1)
                    self.check(error, OtherPlan)
                    self.assertIsInstance(error, StateError)
                for call in CHECKS:
                    self.check(caught(call, sheet, "n", other, "n", None), OtherPlan)
                self.check(caught(joint_tables, sheet, other, pairs=-1), OtherPlan)
        wide = wide_sheet()
        for call in WITH_COLUMNS:
            self.check(caught(call, wide, "a", sheet, "n", limit=0), OtherPlan)

    def test_counts(self):
        sheet = blocks()
        for value in (*ODD_VALUES, -1):
            for call in WITH_COLUMNS:
                self.check(caught(call, sheet, "n", sheet, "n", limit=value, pairs=value), InvalidCount, value=value)
                self.check(caught(call, sheet, "n", sheet, "n", limit=0, pairs=value), InvalidCount, value=value)
                self.check(caught(call, sheet, "n", sheet, "n", limit=value, pairs=-7), InvalidCount, value=value)
                self.check(caught(call, sheet, "n", sheet, "n", limit=value), InvalidCount, value=value)
                self.check(caught(call, wide_sheet(), "a", wide_sheet(), "a", pairs=value), InvalidCount, value=value)
        for call in WITH_COLUMNS:
            with self.assertRaises(TypeError):
                call(sheet, "n", sheet, "n", 400)

    def test_too_many(self):
        one, wide = Sheet.free(2, ["a"], {"a": 0}, x={"a": Number(0)}), wide_sheet()
        for call in WITH_COLUMNS:
            for first, second in ((one, wide), (wide, one)):
                self.check(caught(call, first, "a", second, "a", limit=0), TooMany, what="entries", limit=100)
        for call in CHECKS:
            for first, second in ((one, wide), (wide, one)):
                self.check(caught(call, first, "a", second, "a", None), TooMany, what="entries", limit=100)
        # One table and 18 tables; then 19 and 18 tables, of which the pairs are more.
        few, some, more = Sheet.free(9, ["a"], {"a": 0}, x={"a": Number(0)}, e={"a": Number(0)}), sheet_of_tables(18), sheet_of_tables(19)
        for call in WITH_COLUMNS:
            self.check(caught(call, few, "a", some, "a", limit=17, pairs=0), TooMany, what="tables", limit=17)
            self.check(caught(call, some, "a", few, "a", limit=17, pairs=0), TooMany, what="tables", limit=17)
            self.check(caught(call, few, "a", some, "a", limit=18, pairs=17), TooMany, what="pairs", limit=17)
            self.check(caught(call, few, "a", some, "a", limit=18, pairs=18), NotFull, column="a")
            self.check(caught(call, some, "b", more, "c", limit=18, pairs=0), TooMany, what="tables", limit=18)
            self.check(caught(call, some, "b", more, "c", limit=19, pairs=19), TooMany, what="pairs", limit=19)
            self.check(caught(call, some, "b", more, "c", limit=19), NotFull, column="b")
            self.check(caught(call, sheet_of_tables(401), "a", few, "a"), TooMany, what="tables", limit=400)
        pairs = len(joint_tables(some, more))
        self.check(caught(are_alike, some, "b", more, "c", pairs=pairs - 1), TooMany, what="pairs", limit=pairs - 1)
        self.check(caught(are_alike, some, "b", more, "c", pairs=pairs), NotFull, column="b")


if __name__ == "__main__":
    unittest.main()
