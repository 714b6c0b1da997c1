"""Point [14] and the interface of formulas: nodes, columns_read, put, fits, +, str, repr, equality."""

import random
import types
import unittest

from belowneeds.errors import InvalidFormula, InvalidNumber, InvalidPosition, InvalidWhere, TooMany
from belowneeds.formulas import Choice, Down, Formula, Here, Least, Most, Number, Plus, Same, Up
from examples import ODD_VALUES, caught, depth_of, parts_of, random_formula, wide

PAIRS = (Plus, Least, Most, Same)
MIXED = Choice(Least(Here("b"), Up("a")), (0, 7), Plus(Down("b"), Number(3)), Most(Up("c"), Same(Up("a"), Number(8))))


def model_nodes(formula):
    """The nodes in sequence, as [14] says."""
    if isinstance(formula, Choice):
        parts = [formula.test, formula.then, formula.other]
    elif isinstance(formula, PAIRS):
        parts = [formula.left, formula.right]
    else:
        parts = []
    return [formula, *[node for part in parts for node in model_nodes(part)]]


class NodesTest(unittest.TestCase):
    def test_a_formula_stands_ahead_of_its_parts_from_left_to_right(self):
        told = [(number, str(node)) for number, node in MIXED.nodes()]
        self.assertEqual(told, [
            (0, "if least(here b, up a) in {0, 7} then (down b + 3) else most(up c, (up a = 8))"),
            (1, "least(here b, up a)"), (2, "here b"), (3, "up a"), (4, "(down b + 3)"), (5, "down b"), (6, "3"),
            (7, "most(up c, (up a = 8))"), (8, "up c"), (9, "(up a = 8)"), (10, "up a"), (11, "8"),
        ])

    def test_nodes_is_a_generator_of_tuples(self):
        nodes = MIXED.nodes()
        self.assertIsInstance(nodes, types.GeneratorType)
        self.assertEqual(next(nodes), (0, MIXED))
        self.assertIs(type(next(nodes)), tuple)
        self.assertEqual(list(Number(3).nodes()), [(0, Number(3))])

    def test_len_is_the_number_of_nodes(self):
        self.assertEqual([len(Number(1)), len(Up("a")), len(Plus(Up("a"), Up("a"))), len(MIXED)], [1, 1, 3, 12])
        self.assertEqual(len(Choice(Number(0), (), Number(0), Number(0))), 4)

    def test_depth(self):
        self.assertEqual([Number(1).depth, Up("a").depth, MIXED.depth, depth_of(8).depth], [0, 0, 3, 8])
        for made in PAIRS:
            self.assertEqual([made(depth_of(2), Number(1)).depth, made(Number(1), depth_of(3)).depth], [3, 4])
        deep, flat = depth_of(4), Number(0)
        choices = [Choice(deep, (), flat, flat), Choice(flat, (), deep, flat), Choice(flat, (), flat, deep)]
        self.assertEqual([choice.depth for choice in choices], [5, 5, 5])

    def test_one_object_at_several_places_is_several_nodes(self):
        one = Plus(Up("a"), Number(1))
        both = Same(one, one)
        self.assertEqual([len(both), both.depth], [7, 2])
        self.assertEqual([str(node) for _, node in both.nodes()][1:], ["(up a + 1)", "up a", "1"] * 2)

    def test_the_nodes_of_many_formulas(self):
        rnd = random.Random(5)
        for _ in range(200):
            formula = random_formula(rnd, 3, ["a", "b"], 3)
            self.assertEqual(list(formula.nodes()), list(enumerate(model_nodes(formula))))
            self.assertEqual(len(formula), len(model_nodes(formula)))


class ColumnsReadTest(unittest.TestCase):
    def test_the_columns_of_each_sort_sorted_and_once(self):
        self.assertEqual(MIXED.columns_read("up"), ["a", "c"])
        self.assertEqual(MIXED.columns_read("here"), ["b"])
        self.assertEqual(MIXED.columns_read(where="down"), ["b"])
        self.assertEqual(Plus(Up("c"), Plus(Up("b"), Up("a"))).columns_read("up"), ["a", "b", "c"])
        self.assertEqual(Number(1).columns_read("up"), [])
        self.assertEqual(Up("a").columns_read("up"), ["a"])

    def test_the_list_is_new(self):
        MIXED.columns_read("up").append("z")
        self.assertEqual(MIXED.columns_read("up"), ["a", "c"])

    def test_what_is_none_of_the_three_words(self):
        for value in (*ODD_VALUES, "UP", "up ", "upp", "down a", 0, ["up"], ("up",), b"up"):
            error = caught(Number(1).columns_read, value)
            self.assertIs(type(error), InvalidWhere)
            self.assertEqual(parts_of(error), {"value": value})


class PutTest(unittest.TestCase):
    def test_each_node_in_turn(self):
        told = [str(MIXED.put(number, Down("z"))) for number in range(12)]
        self.assertEqual(told, [
            "down z",
            "if down z in {0, 7} then (down b + 3) else most(up c, (up a = 8))",
            "if least(down z, up a) in {0, 7} then (down b + 3) else most(up c, (up a = 8))",
            "if least(here b, down z) in {0, 7} then (down b + 3) else most(up c, (up a = 8))",
            "if least(here b, up a) in {0, 7} then down z else most(up c, (up a = 8))",
            "if least(here b, up a) in {0, 7} then (down z + 3) else most(up c, (up a = 8))",
            "if least(here b, up a) in {0, 7} then (down b + down z) else most(up c, (up a = 8))",
            "if least(here b, up a) in {0, 7} then (down b + 3) else down z",
            "if least(here b, up a) in {0, 7} then (down b + 3) else most(down z, (up a = 8))",
            "if least(here b, up a) in {0, 7} then (down b + 3) else most(up c, down z)",
            "if least(here b, up a) in {0, 7} then (down b + 3) else most(up c, (down z = 8))",
            "if least(here b, up a) in {0, 7} then (down b + 3) else most(up c, (up a = down z))",
        ])

    def test_the_formula_itself_does_not_change(self):
        before = repr(MIXED)
        MIXED.put(5, Number(1))
        self.assertEqual(repr(MIXED), before)

    def test_by_name_and_with_the_class_kept(self):
        for made in PAIRS:
            changed = made(Up("a"), Number(1)).put(formula=Number(2), number=1)
            self.assertEqual((type(changed), str(changed)), (made, str(made(Number(2), Number(1)))))
        self.assertEqual(repr(Number(1).put(0, Up("a"))), "Up('a')")

    def test_one_object_at_several_places_is_replaced_at_one(self):
        one = Plus(Up("a"), Up("a"))
        both = Least(one, one)
        self.assertEqual(str(both.put(2, Number(7))), "least((7 + up a), (up a + up a))")
        self.assertEqual(str(both.put(3, Number(7))), "least((up a + 7), (up a + up a))")
        self.assertEqual(str(both.put(4, Number(7))), "least((up a + up a), 7)")
        self.assertEqual(str(both.put(6, Number(7))), "least((up a + up a), (up a + 7))")
        self.assertEqual(str(one), "(up a + up a)")
        self.assertEqual(str(both.put(4, both)), "least((up a + up a), least((up a + up a), (up a + up a)))")

    def test_what_is_no_number_of_a_node(self):
        for value in (*ODD_VALUES, -1, 12, 13, 10 ** 69, "0", (0,)):
            error = caught(MIXED.put, value, Number(1))
            self.assertIs(type(error), InvalidPosition)
            self.assertIs(error.value, value)
        self.assertIs(type(caught(Number(1).put, 1, Number(1))), InvalidPosition)
        self.assertEqual(Number(1).put(0, Number(2)), Number(2))

    def test_what_is_no_formula_behind_what_is_no_number(self):
        for value in (*ODD_VALUES, 0, 3, "here a"):
            error = caught(MIXED.put, 3, value)
            self.assertEqual((type(error), parts_of(error)), (InvalidFormula, {"value": value}))
            error = caught(MIXED.put, 12, value)
            self.assertEqual((type(error), parts_of(error)), (InvalidPosition, {"value": 12}))
        self.assertIs(type(caught(Number(1).put, 0, 1)), InvalidFormula)

    def test_forty_nodes_and_forty_one(self):
        forty = Plus(wide(27), Choice(Number(0), (), wide(9), Number(1)))
        self.assertEqual(len(forty), 40)
        last = len(forty) - 1
        self.assertEqual(len(forty.put(last, Number(2))), 40)
        self.assertEqual(len(forty.put(0, wide(39))), 39)
        error = caught(forty.put, last, Plus(Number(1), Number(1)))
        self.assertEqual((type(error), parts_of(error)), (TooMany, {"what": "nodes", "limit": 40}))
        self.assertEqual(len(forty.put(1, wide(27))), 40)
        self.assertEqual(parts_of(caught(forty.put, 1, wide(29))), {"what": "nodes", "limit": 40})

    def test_depth_eight_and_nine(self):
        eight = depth_of(8)
        deepest = [number for number, node in eight.nodes() if node == Up("u")]
        self.assertEqual(eight.put(deepest[0], Down("u")).depth, 8)
        error = caught(eight.put, deepest[0], Plus(Up("u"), Up("u")))
        self.assertEqual((type(error), parts_of(error)), (TooMany, {"what": "depth", "limit": 8}))
        self.assertEqual(eight.put(16, depth_of(7)).depth, 8)
        self.assertEqual(parts_of(caught(eight.put, 16, depth_of(8))), {"what": "depth", "limit": 8})

    def test_too_many_nodes_are_told_ahead_of_the_depth_of_a_part(self):
        eight = depth_of(8)
        deepest = [number for number, node in eight.nodes() if node == Up("u")][0]
        self.assertEqual(parts_of(caught(eight.put, deepest, wide(25))), {"what": "nodes", "limit": 40})
        self.assertEqual(parts_of(caught(eight.put, deepest, wide(23))), {"what": "depth", "limit": 8})

    def test_what_was_put_into_many_formulas(self):
        rnd = random.Random(6)
        for _ in range(200):
            formula = random_formula(rnd, 2, ["a", "b"], 3)
            number = rnd.randrange(len(formula))
            nodes = list(formula.put(number, Number(8)).nodes())
            self.assertEqual(nodes[number], (number, Number(8)))
            old = model_nodes(formula)
            behind = old[number + len(old[number]):]
            self.assertEqual([node for _, node in nodes[number + 1:]], behind)


class FitsTest(unittest.TestCase):
    def test_numbers_are_less_than_the_modulus(self):
        for value in range(9):
            for modulus in range(2, 10):
                fits = value < modulus
                self.assertIs(Number(value).fits(modulus, []), fits)
                self.assertIs(Plus(Up("a"), Number(value)).fits(modulus, ["a"]), fits)
                self.assertIs(Choice(Number(0), (value,), Number(0), Number(1)).fits(modulus, []), fits)
        self.assertIs(Choice(Number(0), (), Number(0), Number(1)).fits(2, []), True)
        self.assertIs(Choice(Number(0), range_to(8), Number(0), Number(1)).fits(8, []), False)
        self.assertIs(Choice(Number(0), range_to(8), Number(0), Number(1)).fits(9, []), True)

    def test_columns_are_in_the_list(self):
        self.assertIs(MIXED.fits(9, ["a", "b", "c"]), True)
        self.assertIs(MIXED.fits(columns=("c", "b", "a", "z"), modulus=9), True)
        for missing in "abc":
            self.assertIs(MIXED.fits(9, [column for column in "abc" if column != missing]), False)
        for made in (Here, Up, Down):
            self.assertEqual([made("a").fits(2, ["a"]), made("a").fits(2, ["b"]), made("a").fits(2, ())],
                             [True, False, False])

    def test_parts_that_are_never_worked_out_count(self):
        self.assertIs(Choice(Number(0), (0,), Number(1), Number(5)).fits(3, []), False)
        self.assertIs(Choice(Number(0), (0,), Number(1), Up("b")).fits(3, ["a"]), False)


def range_to(last):
    return tuple(range(last + 1))


class PlusTest(unittest.TestCase):
    def test_a_formula_or_an_integer_on_the_right(self):
        self.assertEqual(repr(Up("u") + 1), "Plus(Up('u'), Number(1))")
        self.assertEqual(repr(Up("u") + Down("n")), "Plus(Up('u'), Down('n'))")
        self.assertEqual([str(Number(1) + 0), str(Number(1) + 8)], ["(1 + 0)", "(1 + 8)"])
        self.assertEqual(repr(Number(1) + 2 + 3), "Plus(Plus(Number(1), Number(2)), Number(3))")

    def test_what_is_no_number(self):
        for value in (-1, 9, 10 ** 69):
            error = caught(lambda: Up("u") + value)
            self.assertEqual((type(error), parts_of(error)), (InvalidNumber, {"value": value}))

    def test_what_is_no_formula(self):
        for value in (*ODD_VALUES, "1", "here a"):
            error = caught(lambda: Up("u") + value)
            self.assertIs(type(error), InvalidFormula)
            self.assertIs(error.value, value)

    def test_limits(self):
        self.assertEqual(parts_of(caught(lambda: wide(39) + 1)), {"what": "nodes", "limit": 40})
        self.assertEqual(parts_of(caught(lambda: depth_of(8) + 1)), {"what": "depth", "limit": 8})

    def test_an_integer_on_the_left_stands_for_nothing(self):
        self.assertIs(type(caught(lambda: 1 + Up("u"))), TypeError)


class TextTest(unittest.TestCase):
    def test_str_of_each_class(self):
        a, b = Here("a"), Number(3)
        told = [str(formula) for formula in (b, a, Up("a"), Down("a"), Plus(a, b), Least(a, b), Most(a, b), Same(a, b))]
        self.assertEqual(told, ["3", "here a", "up a", "down a", "(here a + 3)", "least(here a, 3)", "most(here a, 3)",
                                "(here a = 3)"])
        self.assertEqual(str(Choice(a, (0, 2), b, Up("c"))), "if here a in {0, 2} then 3 else up c")
        self.assertEqual(str(Choice(a, (), b, Up("c"))), "if here a in {} then 3 else up c")
        self.assertEqual(str(Choice(a, (5,), b, Up("c"))), "if here a in {5} then 3 else up c")

    def test_repr_is_as_the_constructor(self):
        self.assertEqual(repr(Plus(Up("u"), Number(1))), "Plus(Up('u'), Number(1))")
        self.assertEqual(repr(Choice(Here("n"), [0], Number(1), Down("n"))),
                         "Choice(Here('n'), (0,), Number(1), Down('n'))")
        self.assertEqual(repr(Choice(Here("n"), (), Number(1), Down("n"))),
                         "Choice(Here('n'), (), Number(1), Down('n'))")
        for formula in (MIXED, *[made(Up("a"), Number(2)) for made in PAIRS]):
            self.assertEqual(eval(repr(formula)), formula)


class EqualityTest(unittest.TestCase):
    def test_equal_parts_of_one_class(self):
        one = Number(1)
        for formula in (one, Here("a"), Up("a"), Down("a"), MIXED, *[made(one, Up("b")) for made in PAIRS]):
            again = eval(repr(formula))
            self.assertIsNot(again, formula)
            self.assertTrue(again == formula)
            self.assertFalse(again != formula)

    def test_other_classes_and_other_parts(self):
        one, two, a = Number(1), Number(2), Up("a")
        formulas = [one, two, a, Up("b"), Here("a"), Down("a"), Choice(one, (), two, a), Choice(one, (1,), two, a),
                    Choice(one, (1, 2), two, a), Choice(two, (1,), two, a), Choice(one, (1,), one, a),
                    Choice(one, (1,), two, two)]
        for made in PAIRS:
            formulas += [made(one, two), made(two, one), made(one, one), made(one, a)]
        for at, formula in enumerate(formulas):
            for other, another in enumerate(formulas):
                self.assertEqual(formula == another, at == other)
                self.assertEqual(formula != another, at != other)

    def test_values_of_another_kind(self):
        for formula, value in ((Number(1), 1), (Number(1), True), (Up("a"), "up a"), (Up("a"), "Up('a')"),
                               (Number(0), None), (Number(0), ()), (Up("a"), ("up", "a")), (Number(0), False)):
            self.assertFalse(formula == value)
            self.assertTrue(formula != value)
            self.assertFalse(value == formula)

    def test_a_query_that_is_repeated(self):
        for _ in range(2):
            self.assertEqual(MIXED.columns_read("up"), ["a", "c"])
            self.assertEqual(len(list(MIXED.nodes())), 12)
        self.assertEqual(Formula.read(str(MIXED)), Formula.read(str(MIXED)))


if __name__ == "__main__":
    unittest.main()
