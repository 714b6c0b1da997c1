"""Point [13]: work_out, need and met."""

import itertools
import random
import unittest

from belowneeds.formulas import Choice, Down, Formula, Here, Least, Most, Number, Plus, Same, Up
from examples import NoValue, model_value, random_formula

PAIRS = (Plus, Least, Most, Same)


def all_told(formula, modulus=5, above=None, own=None, below=None):
    """The value, the need and what was met."""
    rows = (modulus, above or {}, own or {}, below or {})
    return [formula.work_out(*rows), formula.need(*rows), formula.met(*rows)]


class ValueTest(unittest.TestCase):
    def test_numbers_and_references(self):
        self.assertEqual(all_told(Number(3)), [3, None, []])
        self.assertEqual(all_told(Here("a"), own={"a": 2}), [2, None, [(0, "here", "a")]])
        self.assertEqual(all_told(Up("a"), above={"a": 0}), [0, None, [(0, "up", "a")]])
        self.assertEqual(all_told(Down("a"), below={"a": 4}), [4, None, [(0, "down", "a")]])

    def test_each_reference_looks_into_its_own_row(self):
        rows = {"above": {"a": 1}, "own": {"a": 2}, "below": {"a": 3}}
        self.assertEqual([made("a").work_out(5, **rows) for made in (Up, Here, Down)], [1, 2, 3])

    def test_pairs_of_all_values(self):
        for modulus in range(2, 10):
            for left, right in itertools.product(range(modulus), repeat=2):
                parts, own = (Here("l"), Here("r")), {"l": left, "r": right}
                told = [made(*parts).work_out(modulus, {}, own, {}) for made in PAIRS]
                self.assertEqual(told, [(left + right) % modulus, min(left, right), max(left, right),
                                        1 if left == right else 0])
                self.assertEqual([type(value) for value in told], [int] * 4)

    def test_a_choice_of_all_values_and_lists(self):
        for listed in range(16):
            chosen = [number for number in range(4) if listed & 1 << number]
            choice = Choice(Here("t"), chosen, Up("a"), Down("a"))
            for value in range(4):
                told = all_told(choice, 4, {"a": 2}, {"t": value}, {"a": 3})
                way = (2, "up", "a") if value in chosen else (3, "down", "a")
                self.assertEqual(told, [2 if value in chosen else 3, None, [(1, "here", "t"), way]])

    def test_by_name(self):
        formula = Plus(Up("a"), Down("b"))
        named = {"below": {"b": 2}, "own": {}, "above": {"a": 4}, "modulus": 5}
        self.assertEqual(formula.work_out(**named), 1)
        self.assertEqual(formula.need(**named), None)
        self.assertEqual(formula.met(**named), [(1, "up", "a"), (2, "down", "b")])


class NeedTest(unittest.TestCase):
    def test_a_column_that_is_lacking_or_has_none(self):
        for made, where in ((Here, "here"), (Up, "up"), (Down, "down")):
            for row in ({}, {"b": 1}, {"a": None}):
                told = all_told(made("a"), above=row, own=row, below=row)
                self.assertEqual(told, [None, (where, "a"), [(0, where, "a")]])

    def test_a_need_at_each_place_of_a_pair(self):
        for made in PAIRS:
            for need, where in ((Here("x"), "here"), (Up("x"), "up"), (Down("x"), "down")):
                left = made(need, Here("a"))
                self.assertEqual(all_told(left, own={"a": 1}), [None, (where, "x"), [(1, where, "x")]])
                right = made(Here("a"), need)
                self.assertEqual(all_told(right, own={"a": 1}),
                                 [None, (where, "x"), [(1, "here", "a"), (2, where, "x")]])

    def test_a_need_at_each_place_of_a_choice(self):
        for need, where in ((Here("x"), "here"), (Up("x"), "up"), (Down("x"), "down")):
            test = Choice(need, (0,), Here("a"), Here("b"))
            self.assertEqual(all_told(test, own={"a": 1, "b": 2}), [None, (where, "x"), [(1, where, "x")]])
            then = Choice(Here("a"), (1,), need, Here("b"))
            self.assertEqual(all_told(then, own={"a": 1, "b": 2}),
                             [None, (where, "x"), [(1, "here", "a"), (2, where, "x")]])
            self.assertEqual(all_told(then, own={"a": 0, "b": 2}), [2, None, [(1, "here", "a"), (3, "here", "b")]])
            other = Choice(Here("a"), (1,), Here("b"), need)
            self.assertEqual(all_told(other, own={"a": 0, "b": 2}),
                             [None, (where, "x"), [(1, "here", "a"), (3, where, "x")]])
            self.assertEqual(all_told(other, own={"a": 1, "b": 2}), [2, None, [(1, "here", "a"), (2, "here", "b")]])

    def test_both_parts_are_always_worked_out(self):
        for formula in (Least(Number(0), Down("c")), Most(Number(4), Down("c")), Same(Number(0), Down("c")),
                        Plus(Number(0), Down("c"))):
            self.assertEqual(all_told(formula), [None, ("down", "c"), [(2, "down", "c")]])

    def test_the_left_part_is_worked_out_first(self):
        for made in PAIRS:
            self.assertEqual(all_told(made(Up("a"), Down("b"))), [None, ("up", "a"), [(1, "up", "a")]])

    def test_the_test_is_worked_out_though_no_number_or_every_value_is_listed(self):
        for chosen in ((), (0, 1, 2), range_to(8)):
            formula = Choice(Up("x"), chosen, Number(1), Number(1))
            self.assertEqual(all_told(formula, 3), [None, ("up", "x"), [(1, "up", "x")]])

    def test_the_part_that_is_not_chosen_is_not_worked_out(self):
        self.assertEqual(all_told(Choice(Number(0), (), Down("x"), Number(2))), [2, None, []])
        self.assertEqual(all_told(Choice(Number(0), range_to(8), Number(2), Down("x"))), [2, None, []])

    def test_the_numbers_of_the_nodes_behind_long_parts(self):
        long = Plus(Plus(Number(1), Here("a")), Number(0))
        formula = Choice(long, (2,), long, Same(long, Up("x")))
        self.assertEqual(all_told(formula, 5, own={"a": 2}),
                         [None, ("up", "x"), [(4, "here", "a"), (15, "here", "a"), (17, "up", "x")]])

    def test_one_object_at_several_places_is_met_at_each(self):
        one = Here("a")
        told = all_told(Plus(Plus(one, one), one), 2, own={"a": 1})
        self.assertEqual(told, [1, None, [(2, "here", "a"), (3, "here", "a"), (4, "here", "a")]])

    def test_the_rows_do_not_change_and_the_list_is_new(self):
        above, own, below = {"a": 1}, {"a": None}, {}
        formula = Plus(Up("a"), Plus(Here("a"), Down("a")))
        formula.met(5, above, own, below).append("more")
        self.assertEqual(formula.met(5, above, own, below), [(1, "up", "a"), (3, "here", "a")])
        self.assertEqual([formula.work_out(5, above, own, below), formula.need(5, above, own, below)],
                         [None, ("here", "a")])
        self.assertEqual((above, own, below), ({"a": 1}, {"a": None}, {}))

    def test_zero_is_a_value_and_not_none(self):
        formula = Plus(Here("a"), Choice(Here("a"), (0,), Up("a"), Down("a")))
        self.assertEqual(all_told(formula, 3, {"a": 0}, {"a": 0}, {})[:2], [0, None])


def range_to(last):
    return tuple(range(last + 1))


class ManyTest(unittest.TestCase):
    def test_many_formulas_as_the_model(self):
        rnd = random.Random(7)
        for _ in range(1500):
            modulus = rnd.randrange(2, 10)
            formula = random_formula(rnd, 3, ["a", "b"], modulus)
            rows = [{c: rnd.choice([None, *range(modulus)]) for c in "ab" if rnd.randrange(4)} for _ in range(3)]
            value, need, met = all_told(formula, modulus, *rows)
            try:
                wanted = (model_value(formula, modulus, dict(zip(("up", "here", "down"), rows))), None)
            except NoValue as stopped:
                wanted = (None, stopped.args[0])
            self.assertEqual((value, need), wanted, str(formula))
            nodes = dict(formula.nodes())
            self.assertEqual([(nodes[at].where, nodes[at].column) for at, _, _ in met], [look[1:] for look in met])
            self.assertEqual([at for at, _, _ in met], sorted({at for at, _, _ in met}))
            if need:
                self.assertEqual(met[-1][1:], need)


class ExampleTest(unittest.TestCase):
    def test_the_example_of_the_interface(self):
        formula = Formula.read("if here n in {0} then (up u + down n) else 1")
        self.assertEqual([len(formula), formula.depth, formula.columns_read("down"), repr(Up("u") + 1)],
                         [6, 2, ["n"], "Plus(Up('u'), Number(1))"])
        self.assertEqual(formula.need(2, {"u": 1}, {"n": 0}, {"n": None}), ("down", "n"))
        self.assertEqual([formula.work_out(2, {"u": 1}, {"n": 0}, {"n": 1}), formula.met(2, {}, {"n": 1}, {})],
                         [0, [(1, "here", "n")]])


if __name__ == "__main__":
    unittest.main()
