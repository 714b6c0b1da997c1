"""Points [2], [12] and [14]: making formulas, their errors, limits and properties."""

import unittest

from belowneeds.errors import (
    InvalidChosen, InvalidFormula, InvalidName, InvalidNumber, SheetError, TooMany,
)
from belowneeds.formulas import (
    Choice, Down, Formula, Here, Least, Most, Number, Pair, Plus, Reference, Same, Up,
)
from examples import ODD_VALUES, caught, depth_of, parts_of, wide

PAIRS = (Plus, Least, Most, Same)
REFERENCES = (Here, Up, Down)
RESERVED = ("if", "then", "else", "in", "here", "up", "down", "least", "most")


class MadeTest(unittest.TestCase):
    def check(self, error, kind, /, **attributes):
        self.assertIs(type(error), kind)
        self.assertEqual(parts_of(error), attributes)
        for name, value in attributes.items():
            self.assertIs(type(getattr(error, name)), type(value))


class NumberTest(MadeTest):
    def test_all_numbers_from_0_to_8(self):
        for value in range(9):
            self.assertEqual(Number(value).value, value)
            self.assertEqual(Number(value=value).value, value)

    def test_what_is_no_number(self):
        for value in (*ODD_VALUES, -1, 9, 10 ** 69, -10 ** 69, Number(1)):
            self.check(caught(Number, value), InvalidNumber, value=value)

    def test_a_bool_is_told_as_it_was_passed(self):
        self.assertIs(caught(Number, True).value, True)
        self.assertIs(caught(Number, False).value, False)


class ReferenceTest(MadeTest):
    def test_column_and_where(self):
        for made, where in ((Here, "here"), (Up, "up"), (Down, "down")):
            for column in ("a", "z", "abcdefgh", "iff", "ups", "heres"):
                self.assertEqual((made(column).column, made(column=column).where), (column, where))

    def test_what_is_no_name(self):
        wrong = ("abcdefghi", "aB", "a1", "a_b", "a b", "a\n", " a", "-", "a" * 20000, 0, 1, Number(1))
        for made in REFERENCES:
            for value in (*ODD_VALUES, *RESERVED, *wrong):
                self.check(caught(made, value), InvalidName, value=value)


class PairTest(MadeTest):
    def test_parts(self):
        left, right = Up("a"), Number(3)
        for made in PAIRS:
            self.assertEqual((made(left, right).left, made(left, right).right), (left, right))
            self.assertEqual((made(right=right, left=left).left, made(left, right=right).right), (left, right))

    def test_what_is_no_formula(self):
        for made in PAIRS:
            for value in (*ODD_VALUES, 0, 3, "1", "here a", Number):
                self.check(caught(made, value, Number(1)), InvalidFormula, value=value)
                self.check(caught(made, Number(1), value), InvalidFormula, value=value)

    def test_the_left_part_is_refused_first(self):
        for made in PAIRS:
            self.check(caught(made, "left", "right"), InvalidFormula, value="left")
            self.check(caught(made, right="right", left="left"), InvalidFormula, value="left")

    def test_a_wrong_part_is_refused_ahead_of_the_limits(self):
        for made in PAIRS:
            self.check(caught(made, depth_of(8), 1), InvalidFormula, value=1)


class ChoiceTest(MadeTest):
    def test_parts(self):
        choice = Choice(Here("a"), [0, 8], Up("b"), Number(2))
        self.assertEqual((choice.test, choice.then, choice.other), (Here("a"), Up("b"), Number(2)))
        self.assertEqual(choice.chosen, (0, 8))
        self.assertIs(type(choice.chosen), tuple)
        named = Choice(other=Number(2), then=Up("b"), chosen=(0, 8), test=Here("a"))
        self.assertEqual(named, choice)

    def test_no_number_and_all_numbers_can_be_listed(self):
        for chosen in ((), tuple(range(9)), (0,), (8,), (1, 3, 4)):
            self.assertEqual(Choice(Number(0), chosen, Number(1), Number(2)).chosen, chosen)
            self.assertEqual(Choice(Number(0), list(chosen), Number(1), Number(2)).chosen, chosen)

    def test_the_listed_numbers_are_copied(self):
        chosen = [1, 2]
        choice = Choice(Number(0), chosen, Number(1), Number(2))
        chosen.append(3)
        self.assertEqual((choice.chosen, chosen), ((1, 2), [1, 2, 3]))
        self.assertEqual(str(choice), "if 0 in {1, 2} then 1 else 2")

    def test_what_are_no_listed_numbers(self):
        odd = [value for value in ODD_VALUES if value not in ((), [], [1], (1, 2))]
        wrong = ([1, 1], [2, 1], [0, 2, 1], [9], [-1], [0, 9], [True], [False, 1], (True,), [0, True], ["1"],
                 [None], [[1]], [(1,)], [Number(1)], "12", {1, 2}, {1: 2}, range(2), 1, 0, list(range(10)))
        for value in (*odd, *wrong):
            error = caught(Choice, Number(0), value, Number(1), Number(2))
            self.assertIs(type(error), InvalidChosen)
            self.assertEqual(error.value, value)

    def test_what_is_no_formula(self):
        for value in (*ODD_VALUES, 0, "here a"):
            self.check(caught(Choice, value, (0,), Number(1), Number(2)), InvalidFormula, value=value)
            self.check(caught(Choice, Number(0), (0,), value, Number(2)), InvalidFormula, value=value)
            self.check(caught(Choice, Number(0), (0,), Number(1), value), InvalidFormula, value=value)

    def test_the_first_wrong_part_is_refused(self):
        self.check(caught(Choice, "test", "chosen", "then", "other"), InvalidFormula, value="test")
        self.check(caught(Choice, Number(0), "chosen", "then", "other"), InvalidChosen, value="chosen")
        self.check(caught(Choice, Number(0), (), "then", "other"), InvalidFormula, value="then")
        self.check(caught(Choice, Number(0), (), Number(0), "other"), InvalidFormula, value="other")
        self.check(caught(Choice, depth_of(8), [1, 1], Number(0), Number(0)), InvalidChosen, value=[1, 1])


class LimitsTest(MadeTest):
    def test_forty_nodes_and_forty_one(self):
        self.assertEqual(len(wide(39)), 39)
        forty = Choice(wide(13), (), wide(13), wide(13))
        self.assertEqual((len(forty), forty.depth), (40, 4))
        for made in PAIRS:
            self.assertEqual(len(made(wide(19), wide(19))), 39)
            self.check(caught(made, wide(19), wide(21)), TooMany, what="nodes", limit=40)
        self.check(caught(Choice, wide(13), (), wide(13), wide(15)), TooMany, what="nodes", limit=40)
        even = Choice(wide(3), (), wide(3), wide(1))
        self.assertEqual((len(even), len(Plus(even, wide(31)))), (8, 40))
        self.check(caught(Plus, forty, Number(0)), TooMany, what="nodes", limit=40)
        self.check(caught(Plus, forty, forty), TooMany, what="nodes", limit=40)

    def test_depth_eight_and_nine(self):
        eight = depth_of(8)
        self.assertEqual((eight.depth, len(eight)), (8, 17))
        for made in PAIRS:
            self.assertEqual(made(depth_of(7), Number(0)).depth, 8)
            self.assertEqual(made(Number(0), depth_of(7)).depth, 8)
            self.check(caught(made, eight, Number(0)), TooMany, what="depth", limit=8)
            self.check(caught(made, Number(0), eight), TooMany, what="depth", limit=8)
        for parts in ((eight, Number(0), Number(0)), (Number(0), eight, Number(0)), (Number(0), Number(0), eight)):
            self.check(caught(Choice, parts[0], (), parts[1], parts[2]), TooMany, what="depth", limit=8)

    def test_too_many_nodes_are_told_ahead_of_the_depth(self):
        for made in PAIRS:
            self.check(caught(made, depth_of(8), wide(23)), TooMany, what="nodes", limit=40)
            self.check(caught(made, depth_of(8), Choice(wide(3), (), wide(3), wide(15))), TooMany,
                       what="depth", limit=8)
        self.check(caught(Choice, depth_of(8), (), wide(11), wide(13)), TooMany, what="nodes", limit=40)

    def test_a_limit_is_not_an_error_of_the_form(self):
        error = caught(Plus, depth_of(8), Number(0))
        self.assertIsInstance(error, ArithmeticError)
        self.assertNotIsInstance(error, SheetError)


class ClassesTest(MadeTest):
    def test_which_class_is_of_which(self):
        one = Number(1)
        made = [one, Here("a"), Up("a"), Down("a"), *[pair(one, one) for pair in PAIRS], Choice(one, (), one, one)]
        for formula in made:
            self.assertIsInstance(formula, Formula)
            self.assertEqual(isinstance(formula, Reference), type(formula) in REFERENCES)
            self.assertEqual(isinstance(formula, Pair), type(formula) in PAIRS)
        self.assertTrue(issubclass(Reference, Formula) and issubclass(Pair, Formula))

    def test_what_is_listed_is_set_when_a_formula_is_made(self):
        one = Number(1)
        listed = [(one, {"value": 1}), (Here("a"), {"column": "a", "where": "here"}),
                  (Up("b"), {"column": "b", "where": "up"}), (Down("c"), {"column": "c", "where": "down"}),
                  (Choice(*CHOICE), {"test": Number(0), "chosen": (), "then": one, "other": Number(2)})]
        listed.extend([(pair(one, Here("a")), {"left": one, "right": Here("a")}) for pair in PAIRS])
        for formula, values in listed:
            for name, value in values.items():
                self.assertEqual(getattr(formula, name), value)
            self.assertIs(type(formula.depth), int)

    def test_a_formula_does_not_change_with_what_it_was_given_or_gave(self):
        chosen = [0, 1]
        formula = Choice(Number(0), chosen, Number(1), Number(2))
        chosen.append(2)
        list(formula.nodes()).clear()
        formula.columns_read("up").append("a")
        formula.met(3, {}, {}, {}).append(1)
        self.assertEqual(formula, Choice(Number(0), (0, 1), Number(1), Number(2)))
        self.assertEqual([len(list(formula.nodes())), formula.columns_read("up")], [4, []])
        formula.put(1, Here("a"))
        self.assertEqual(str(formula), "if 0 in {0, 1} then 1 else 2")


CHOICE = (Number(0), (), Number(1), Number(2))


if __name__ == "__main__":
    unittest.main()
