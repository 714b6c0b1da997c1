"""Points [12] and [14], and Formula.read: the texts of formulas."""

import random
import unittest

from belowneeds.errors import InvalidText
from belowneeds.formulas import Choice, Down, Formula, Here, Least, Most, Number, Plus, Same, Up
from examples import caught, depth_of, parts_of, random_formula, wide

RESERVED = ("if", "then", "else", "in", "here", "up", "down", "least", "most")
WRONG = (
    "", " ", "9", "-1", "10", "00", "01", " 1", "1 ", "1\n", "\n1", "+1", "x", "a", "here", "here ", "here  a",
    "here A", "here a1", "here a ", "here a b", "Here a", "herea", "up\na", "here abcdefghi", "down", "left a",
    "(1+2)", "(1 +2)", "(1 + 2", "1 + 2", "( 1 + 2)", "(1 + 2) ", "(1 + 2))", "(1 - 2)", "(1)", "()", "(1 + )",
    "(1  + 2)", "(1 = 2 = 3)", "(1 + 2 + 3)", "(1 == 2)", "((1 + 2))", "(1 + 2)(1 + 2)", "1 = 2",
    "least(1,2)", "least (1, 2)", "least(1, 2", "least(1)", "least(1, 2, 3)", "least(1, 2))", "least 1, 2",
    "most(1 , 2)", "most(, 2)", "most()", "min(1, 2)", "least(1 + 2)", "(least 1, 2)", "Most(1, 2)",
    "if 1 in {} then 2", "if 1 in {} then 2 else", "if 1 in {} then 2 else ", "if 1 in {}  then 2 else 3",
    "if 1 in { } then 2 else 3", "if 1 in {1,2} then 2 else 3", "if 1 in {1 ,2} then 2 else 3",
    "if 1 in {1, } then 2 else 3", "if 1 in {, 1} then 2 else 3", "if 1 in {2, 1} then 2 else 3",
    "if 1 in {1, 1} then 2 else 3", "if 1 in {9} then 2 else 3", "if 1 in {8, 9} then 2 else 3",
    "if 1 in {a} then 2 else 3", "if 1 in {1 then 2 else 3", "if 1 in 1 then 2 else 3", "if 1 in {1}then 2 else 3",
    "if 1 in {01} then 2 else 3", "if 1 in {-1} then 2 else 3", "if 1 in {10} then 2 else 3",
    "if 1 then 2 else 3", "(if 1 in {} then 2 else 3)", "if (1 in {}) then 2 else 3", "if 1 in {} else 2 then 3",
    "if 1 in {} then 2 else 3 else 4", "IF 1 in {} then 2 else 3", "if 1 in () then 2 else 3",
    "if 1 in {} then 2 else 3 + 4",
    "Number(1)", "Plus(Up('u'), Number(1))", "None", "True",
    ".", "0 .", "(.", "( . + 1)", "here .", "if 1 in {.} then 2 else 3", "if 1 in . then 2 else 3", "if 1 in {} . 2 else 3",
    "( 1 + 2 )", "(1 + 2 )", "least( 1, 2)", "least(1, 2 )", "least(1,  2)", "least(1 , 2)", "least ( 1 , 2 )", "least",
    "if 1 in {  } then 2 else 3", "if 1 in { 1 } then 2 else 3", "if 1 in {1 } then 2 else 3", "if 1 in {1,  2} then 2 else 3",
    "if 1 in {{} then 2 else 3", "if 1 in {}} then 2 else 3", "if 1 in{1} then 2 else 3", "if  1 in {} then 2 else 3",
    "(1\t+ 2)", "(1 + 2)\n", "(1 + 2),", ",", "{}", "{", "}", "(", ")", "(,)",
)


class ReadTest(unittest.TestCase):
    def refused(self, text, line):
        error = caught(Formula.read, text)
        self.assertIs(type(error), InvalidText, text)
        self.assertEqual(parts_of(error), {"line": line}, text)

    def test_each_kind_of_formula(self):
        for text, formula in (
            ("0", Number(0)), ("8", Number(8)), ("here a", Here("a")),
            ("up z", Up("z")), ("up abcdefgh", Up("abcdefgh")),
            ("down iff", Down("iff")), ("(here a + 3)", Plus(Here("a"), Number(3))),
            ("(1 = up b)", Same(Number(1), Up("b"))), ("least(1, 2)", Least(Number(1), Number(2))),
            ("most(least(1, 2), 0)", Most(Least(Number(1), Number(2)), Number(0))),
            ("if here a in {} then 1 else 2", Choice(Here("a"), (), Number(1), Number(2))),
            ("if 3 in {0, 1, 2, 3, 4, 5, 6, 7, 8} then 1 else 2",
             Choice(Number(3), tuple(range(9)), Number(1), Number(2))),
        ):
            self.assertEqual(repr(Formula.read(text)), repr(formula))
            self.assertEqual(Formula.read(text=text), formula)

    def test_choices_within_choices(self):
        inner = Choice(Up("a"), (1,), Number(2), Number(3))
        for formula in (Choice(inner, (), Number(0), Number(1)), Choice(Number(0), (), inner, Number(1)),
                        Choice(Number(0), (), Number(1), inner), Plus(inner, inner), Least(inner, inner),
                        Choice(inner, (0,), inner, inner)):
            self.assertEqual(Formula.read(str(formula)), formula)

    def test_the_parts_of_a_pair_are_not_changed_over(self):
        self.assertEqual(repr(Formula.read("(up a + down b)")), "Plus(Up('a'), Down('b'))")
        self.assertEqual(repr(Formula.read("if 1 in {2} then 3 else 4")),
                         "Choice(Number(1), (2,), Number(3), Number(4))")

    def test_many_texts_come_back(self):
        rnd = random.Random(8)
        for _ in range(500):
            formula = random_formula(rnd, 3, ["a", "zoz", "downs", "inn"], 9)
            self.assertEqual(repr(Formula.read(str(formula))), repr(formula))

    def test_texts_that_are_not_exactly_as_written(self):
        for text in WRONG:
            self.refused(text, 1)

    def test_reserved_words_are_no_columns(self):
        for word in RESERVED:
            for where in ("here", "up", "down"):
                self.refused(f"{where} {word}", 1)

    def test_a_text_with_one_sign_more_or_less(self):
        text = "if least(here a, 2) in {0, 2} then (up b + 1) else (3 = down c)"
        for at in range(len(text)):
            shorter = text[:at] + text[at + 1:]
            longer = text[:at] + " " + text[at:]
            self.refused(longer, 1)
            try:
                # Without a digit or a letter another text can come about; it is exact, too.
                self.assertEqual(str(Formula.read(shorter)), shorter)
            except InvalidText as error:
                self.assertEqual(error.line, 1)

    def test_what_is_no_string(self):
        for value in (None, 1, True, b"1", [], ["1"], ("1",), {}, Number(1), object()):
            self.refused(value, None)

    def test_forty_nodes_and_forty_one(self):
        forty = Choice(wide(13), (), wide(13), wide(13))
        self.assertEqual(len(Formula.read(str(forty))), 40)
        self.assertEqual(len(Formula.read(str(wide(39)))), 39)
        self.refused(f"({wide(39)} + 1)", 1)
        self.refused(f"if {wide(13)} in {{}} then {wide(13)} else {wide(15)}", 1)
        self.refused(f"({wide(39)} + {wide(39)})", 1)

    def test_the_longest_text(self):
        formula = Here("abcdefgh")
        for _ in range(3):
            formula = Choice(formula, tuple(range(9)), formula, formula)
        self.assertEqual([len(formula), len(str(formula)), Formula.read(str(formula)) == formula], [40, 949, True])
        self.refused(str(formula) + " " * 900, 1)
        self.refused(str(formula) + ")" * 900, 1)

    def test_depth_eight_and_nine(self):
        for parts in (("(", "1", " + 2)"), ("(1 = ", "2", ")"), ("least(", "1", ", 2)"), ("most(1, ", "2", ")"),
                      ("if ", "1", " in {} then 2 else 3"), ("if 1 in {} then ", "2", " else 3"),
                      ("if 1 in {} then 2 else ", "3", "")):
            self.assertEqual(Formula.read(nested(*parts, 8)).depth, 8)
            self.refused(nested(*parts, 9), 1)
            self.refused(nested(*parts, 10), 1)
        self.assertEqual(Formula.read(str(depth_of(8))).depth, 8)
        for text in (f"({depth_of(8)} + 1)", f"most(1, {depth_of(8)})", f"if {depth_of(8)} in {{}} then 1 else 2"):
            self.refused(text, 1)

    def test_texts_of_any_length_and_nesting_are_answered(self):
        many = 19999
        for text in ("(" * many, ")" * many, "1" * many, "if " * 6666, "least(" * 3333, "here " + "a" * 19000,
                     "here a" + "\n" * 19000, "if 1 in {" + "0, " * 6000 + "1} then 1 else 2", " " * many,
                     nested("(", "1", " + 1)", 3300), nested("if ", "1", " in {} then 1 else 1", 800),
                     nested("if 1 in {} then 1 else ", "1", "", 800), nested("most(1, ", "1", ")", 1900)):
            self.assertLessEqual(len(text), 20000)
            self.refused(text, 1)


def nested(left, inside, right, many):
    return left * many + inside + right * many


if __name__ == "__main__":
    unittest.main()
