"""Points [2], [21], [22], [24] and [25]: sheets, plans, words, and the texts of sheets."""

import random
import unittest

from belowneeds.errors import (
    InvalidColumns, InvalidKinds, InvalidNumber, InvalidPlan, InvalidTop, InvalidWhere, InvalidWord, LimitError, MissingError,
    SheetError, UnknownColumn, UnknownKind, UnknownPlace,
)
from belowneeds.formulas import Choice, Down, Here, Number, Plus, Up
from belowneeds.fullness import delays
from belowneeds.sheets import Sheet
from examples import (
    BLOCKS_TEXT, END, ITEM, ODD_VALUES, PLAN, TOTAL, CheckedCase, blocks, caught, free_blocks, peek, planned_sheet, random_formula,
    random_sheet,
)

ONE = {"n": Number(1)}


def small(modulus=2, columns=("n",), top=None, kinds=None, plan=None):
    return Sheet(modulus, columns, {"n": 0} if top is None else top, {"a": ONE} if kinds is None else kinds, plan)


def delays_or_none(sheet):
    """The delays of the columns, or None for a sheet that is too large to tell them."""
    try:
        return delays(sheet, limit=40)
    except LimitError:
        return None


class MadeTest(CheckedCase):
    def test_parts(self):
        sheet = blocks()
        self.assertEqual([sheet.modulus, sheet.columns, sheet.places], [2, ("n", "u"), 3])
        self.assertEqual([sheet.kinds(), sheet.top(), sheet.plan()], [["end", "item"], {"n": 0, "u": 0}, PLAN])
        self.assertEqual([sheet.formula("end", "n"), sheet.formula("item", column="n")], [Number(0), Down("n") + 1])
        self.assertEqual((Sheet.MAX_COLUMNS, Sheet.MAX_KINDS, sheet.MAX_KINDS), (6, 4, 4))

    def test_by_name_and_as_tuples(self):
        kinds = {"item": ITEM, "end": END}
        named = Sheet(plan=tuple(PLAN), kinds=kinds, top={"u": 0, "n": 0}, columns=("n", "u"), modulus=2)
        self.assertEqual(named, blocks())

    def test_orders_of_keys_have_no_effect(self):
        kinds = {"item": dict(reversed(ITEM.items())), "end": dict(reversed(END.items()))}
        plan = [dict(reversed(leads.items())) for leads in PLAN]
        sheet = Sheet(2, ["n", "u"], {"u": 0, "n": 0}, kinds, plan)
        self.assertEqual(sheet, blocks())
        self.assertEqual([list(sheet.top()), [list(leads) for leads in sheet.plan()], sheet.allowed(0)],
                         [["n", "u"], [["end", "item"], ["end", "item"], ["end"]], ["end", "item"]])

    def test_what_is_passed_is_copied(self):
        columns, top, row, plan = ["n"], {"n": 0}, {"n": Number(1)}, [{"a": 0}]
        kinds = {"a": row}
        sheet = Sheet(2, columns, top, kinds, plan)
        columns.append("z")
        top["n"], row["n"], kinds["b"], plan[0]["b"] = 1, Number(0), row, 0
        plan.append({})
        self.assertEqual(sheet, small())

    def test_what_is_returned_is_new(self):
        sheet = blocks()
        sheet.kinds().clear()
        sheet.top().clear()
        sheet.plan()[0].clear()
        sheet.plan().clear()
        sheet.allowed(0).clear()
        self.assertEqual(sheet, blocks())

    def test_the_free_plan(self):
        sheet = free_blocks()
        self.assertEqual([sheet.places, sheet.plan()], [1, [{"end": 0, "item": 0}]])
        parts = (2, ["n", "u"], {"n": 0, "u": 0}, {"end": END, "item": ITEM})
        self.assertEqual(sheet, Sheet(*parts))
        self.assertEqual(sheet, Sheet(*parts, [{"end": 0, "item": 0}]))
        self.check(caught(Sheet.free, 1, ["n"], {"n": 0}), InvalidNumber, value=1)
        self.check(caught(Sheet.free, 2, ["n"], {"n": 0}), InvalidKinds, kind=None, column=None)

    def test_equality(self):
        sheet = small()
        others = (small(3), small(top={"n": 1}), small(kinds={"b": ONE}), small(kinds={"a": {"n": Number(0)}}),
                  small(plan=[{"a": 1}, {"a": 0}]), small(kinds={"a": ONE, "b": ONE}), blocks())
        self.assertEqual(sheet, small(plan=[{"a": 0}]))
        for other in (*others, None, 2, "sheet", []):
            self.assertFalse(sheet == other)
            self.assertTrue(sheet != other)


class ErrorsTest(CheckedCase):
    def test_modulus(self):
        for value in (*ODD_VALUES, 0, 1, 10, -2):
            self.check(caught(small, value), InvalidNumber, value=value)
        self.assertEqual([small(modulus).modulus for modulus in range(2, 10)], list(range(2, 10)))

    def test_columns(self):
        odd = [value for value in ODD_VALUES if value not in ([1], (1, 2))]
        for value in (*odd, "n", {"n": 0}, {"n"}, list("abcdefg")):
            self.check(caught(Sheet, 2, value, {}, {}), InvalidColumns, position=None)
        for value, position in ((["n", 1], 1), ([1], 0), (["a", "b", "a", "if"], 2), (["a", "if", "a"], 1),
                                (["a", ["b"]], 1), ([None], 0), (["abcdefghi"], 0)):
            self.check(caught(Sheet, 2, value, {}, {}), InvalidColumns, position=position)
        six = dict.fromkeys("abcdef", 0)
        row = dict.fromkeys("abcdef", Number(1))
        self.assertEqual(Sheet(2, list("abcdef"), six, {"a": row}).columns, tuple("abcdef"))

    def test_top(self):
        for value in (*ODD_VALUES, {"n": 0, "u": 0}, {"u": 0}, ["n"], "n"):
            if value is not None:
                self.check(caught(small, top=value), InvalidTop, column=None)
        self.check(caught(Sheet, 2, ["n"], None, {"a": ONE}), InvalidTop, column=None)
        for value in (-1, 2, True, False, None, "0", Number(0)):
            self.check(caught(small, top={"n": value}), InvalidTop, column="n")
        self.check(caught(Sheet, 2, ["u", "n"], {"n": 2, "u": 2}, {}), InvalidTop, column="u")
        self.assertEqual(small(top={"n": 1}).top(), {"n": 1})

    def test_kinds(self):
        five = dict.fromkeys("abcde", ONE)
        for value in (*[value for value in ODD_VALUES if value not in (None, {"a": 1})], five, {"if": ONE},
                      {"a": ONE, 1: ONE}, {"a": None, "A": ONE}, ["a"]):
            self.check(caught(small, kinds=value), InvalidKinds, kind=None, column=None)
        for value in (None, [], {}, {"n": Number(1), "u": Number(1)}, {"u": Number(1)}, Number(1), ["n"], "n"):
            self.check(caught(small, kinds={"b": ONE, "a": value}), InvalidKinds, kind="a", column=None)
        for value in (None, 1, "1", Number(2), Up("z"), Plus(Number(0), Number(2)),
                      Choice(Number(0), (2,), Number(0), Number(0))):
            self.check(caught(small, kinds={"b": {}, "a": {"n": value}}), InvalidKinds, kind="a", column="n")
        kinds = {"b": {}, "a": {"n": Number(2), "u": 0}}
        self.check(caught(Sheet, 2, ["u", "n"], {"n": 0, "u": 0}, kinds), InvalidKinds, kind="a", column="u")
        self.assertEqual(small(kinds=dict.fromkeys("dcba", ONE)).kinds(), list("abcd"))

    def test_plan(self):
        for value in (*[value for value in ODD_VALUES if value not in (None, [1], (1, 2))], {"a": 0}, "a", 0,
                      [{"a": 0}] * 4):
            self.check(caught(small, plan=value), InvalidPlan, place=None)
        for leads in (None, {}, [], {"a": 2}, {"a": -1}, {"a": True}, {"a": None}, {"b": 1}, {"a": 0, 1: 0}, "a",
                      {"a": 0, "b": 0}, {True: 0}):
            self.check(caught(small, plan=[{"a": 1}, leads]), InvalidPlan, place=1)
        self.check(caught(small, plan=[{"a": False}]), InvalidPlan, place=0)
        self.check(caught(small, plan=[{"a": 2}, None, {"a": 0}]), InvalidPlan, place=1)
        self.check(caught(small, plan=[{"a": 0}, {"a": 0}, None]), InvalidPlan, place=2)

    def test_places_that_cannot_be_reached(self):
        self.check(caught(small, plan=[{"a": 0}, {"a": 0}]), InvalidPlan, place=1)
        self.check(caught(small, plan=[{"a": 1}, {"a": 1}, {"a": 0}]), InvalidPlan, place=2)
        self.check(caught(small, plan=[{"a": 0}, {"a": 2}, {"a": 1}]), InvalidPlan, place=1)
        self.assertEqual(small(plan=[{"a": 2}, {"a": 0}, {"a": 1}]).places, 3)
        self.assertEqual(small(plan=[{"a": 2}, {"a": 1}, {"a": 1}]).places, 3)

    def test_the_first_wrong_part_is_told(self):
        self.check(caught(Sheet, 1, [], {"n": 2}, {}, []), InvalidNumber, value=1)
        self.check(caught(Sheet, 2, [], {"n": 2}, {}, []), InvalidColumns, position=None)
        self.check(caught(Sheet, 2, ["n"], {"n": 2}, {}, []), InvalidTop, column="n")
        self.check(caught(Sheet, 2, ["n"], {"n": 1}, {}, []), InvalidKinds, kind=None, column=None)
        self.check(caught(Sheet, 2, ["n"], {"n": 1}, {"a": ONE}, []), InvalidPlan, place=None)


class QueriesTest(CheckedCase):
    def test_formula(self):
        sheet = blocks()
        for value in (*ODD_VALUES, "n", "free"):
            self.check(caught(sheet.formula, value, "z"), UnknownKind, value=value)
        for value in (*ODD_VALUES, "item", "z"):
            self.check(caught(sheet.formula, "item", value), UnknownColumn, value=value)

    def test_reads(self):
        sheet = blocks()
        self.assertEqual([sheet.reads("up"), sheet.reads("down"), sheet.reads(where="here")],
                         [("u",), ("n",), ("n",)])
        for value in (*ODD_VALUES, "left"):
            self.check(caught(sheet.reads, value), InvalidWhere, value=value)

    def test_reads_in_the_sequence_of_the_columns_and_though_nothing_follows(self):
        never = Choice(Number(0), (0,), Number(1), Plus(Up("b"), Here("c")))
        row = {"c": Number(0), "b": Up("c"), "a": Plus(Up("a"), Down("a"))}
        hidden = {"c": never, "b": Number(0), "a": Number(0)}
        sheet = Sheet(2, ["c", "b", "a"], dict.fromkeys("abc", 0), {"x": row, "y": hidden}, [{"x": 0}])
        self.assertEqual([sheet.reads("up"), sheet.reads("here"), sheet.reads("down")],
                         [("c", "b", "a"), ("c",), ("a",)])

    def test_allowed(self):
        sheet = blocks()
        self.assertEqual([sheet.allowed(0), sheet.allowed(1), sheet.allowed(place=2)],
                         [["end", "item"], ["end", "item"], ["end"]])
        for value in (*ODD_VALUES, -1, 3):
            self.check(caught(sheet.allowed, value), UnknownPlace, value=value)

    def test_place_behind(self):
        sheet = blocks()
        self.assertEqual([sheet.place_behind([]), sheet.place_behind(["item", "item"]), sheet.place_behind(("item",))],
                         [0, 2, 1])
        self.assertEqual([sheet.place_behind([], place=2), sheet.place_behind(word=["end"], place=2)], [2, 0])
        for value in (None, "item", {"item": 0}, 1, True, {"item"}):
            self.check(caught(sheet.place_behind, value), InvalidWord, position=None)
        for value, position in ((["item"] * 3, 2), (["end", "z"], 1), ([1], 0), ([["item"], "z"], 0), ([True], 0),
                                (["item", "item", "end", None], 3)):
            self.check(caught(sheet.place_behind, value), InvalidWord, position=position)
        self.check(caught(sheet.place_behind, ["item"], place=2), InvalidWord, position=0)
        for value in (*ODD_VALUES, -1, 3):
            self.check(caught(sheet.place_behind, None, place=value), UnknownPlace, value=value)
        with self.assertRaises(TypeError):
            sheet.place_behind([], 1)

    def test_is_word(self):
        sheet = blocks()
        for value in ([], (), ["item", "item", "end"], ("end",) * 400):
            self.assertIs(sheet.is_word(value), True)
        for value in (None, 1, True, "", "item", {}, {"item": 0}, ["item"] * 3, [None], [["end"]], ["end", 1], {"end"}):
            self.assertIs(sheet.is_word(value), False)

    def test_the_example_of_the_interface(self):
        sheet = blocks()
        self.assertEqual([sheet.reads("up"), sheet.reads("down"), sheet.place_behind(["item", "item"]),
                          sheet.is_word(["item"] * 3)], [("u",), ("n",), 2, False])

    def test_the_errors_are_of_their_classes(self):
        for base, error in ((SheetError, InvalidPlan(0)), (SheetError, InvalidKinds("a", None)),
                            (MissingError, UnknownKind("a")), (MissingError, UnknownColumn("a"))):
            self.assertIsInstance(error, base)
        self.assertTrue(issubclass(SheetError, ValueError) and issubclass(MissingError, LookupError))


class OtherSheetsTest(CheckedCase):
    def test_with_formula(self):
        sheet = blocks()
        changed = sheet.with_formula("end", "n", Number(1))
        self.assertEqual(changed, Sheet(2, ["n", "u"], {"n": 0, "u": 0}, {"end": {**END, "n": Number(1)}, "item": ITEM},
                                        PLAN))
        self.assertEqual(sheet, blocks())
        self.assertIs(type(changed), Sheet)
        self.assertEqual(sheet.with_formula(formula=Up("n"), column="u", kind="item").formula("item", "u"), Up("n"))
        self.assertEqual(changed.with_formula("end", "n", Number(0)), sheet)

    def test_with_formula_refuses(self):
        sheet = blocks()
        for value in (*ODD_VALUES, "n", "free"):
            self.check(caught(sheet.with_formula, value, "z", None), UnknownKind, value=value)
        for value in (*ODD_VALUES, "item", "z"):
            self.check(caught(sheet.with_formula, "item", value, None), UnknownColumn, value=value)
        for value in (*ODD_VALUES, 1, "0", Number(2), Up("z"), Plus(Number(0), Here("end")),
                      Choice(Number(0), (0, 2), Number(0), Number(0))):
            self.check(caught(sheet.with_formula, "item", "u", value), InvalidKinds, kind="item", column="u")
        self.assertEqual(sheet, blocks())

    def test_with_top(self):
        sheet = blocks()
        self.assertEqual([sheet.with_top(u=1).top(), sheet.with_top(u=1, n=1).top(), sheet.with_top().top()],
                         [{"n": 0, "u": 1}, {"n": 1, "u": 1}, {"n": 0, "u": 0}])
        self.assertEqual(list(sheet.with_top(u=1, n=1).top()), ["n", "u"])
        self.assertEqual([sheet.with_top(), sheet.with_top(n=1).with_top(n=0)], [sheet, sheet])
        self.assertEqual(sheet.with_top(u=1), Sheet(2, ["n", "u"], {"n": 0, "u": 1}, {"end": END, "item": ITEM}, PLAN))
        self.assertEqual(sheet, blocks())
        with self.assertRaises(TypeError):
            sheet.with_top({"u": 1})

    def test_with_top_refuses(self):
        sheet = blocks()
        self.check(caught(sheet.with_top, z=0, u=7, b=None, n=7), UnknownColumn, value="b")
        self.check(caught(sheet.with_top, **{"N": 0}), UnknownColumn, value="N")
        self.check(caught(sheet.with_top, u=2, n=2), InvalidTop, column="n")
        for value in (-1, 2, True, False, None, "0", [], {}):
            self.check(caught(sheet.with_top, u=value), InvalidTop, column="u")

    def test_changes_of_changed_sheets_are_as_sheets_made_anew(self):
        for seed in range(30):
            rnd, sheet = random.Random(seed), planned_sheet(seed)
            rows = {kind: {column: sheet.formula(kind, column) for column in sheet.columns} for kind in sheet.kinds()}
            top, before = sheet.top(), []
            for _ in range(6):
                column = rnd.choice(sheet.columns)
                before.append((sheet, str(sheet), [sheet.reads(where) for where in ("up", "here", "down")], sheet.plan()))
                if rnd.randrange(2):
                    kind = rnd.choice(sheet.kinds())
                    rows[kind][column] = random_formula(rnd, 2, list(sheet.columns), sheet.modulus)
                    sheet = sheet.with_formula(kind, column, rows[kind][column])
                else:
                    top[column] = rnd.randrange(sheet.modulus)
                    sheet = sheet.with_top(**{column: top[column]})
                right = Sheet(sheet.modulus, sheet.columns, top, rows, sheet.plan())
                self.assertEqual([sheet, str(sheet), repr(sheet), sheet.top(), sheet.kinds()], [right, str(right), repr(right), right.top(), right.kinds()])
                for where in ("up", "here", "down"):
                    self.assertEqual(sheet.reads(where), right.reads(where))
                # What was asked of it ahead of the change has no effect behind it.
                self.assertEqual([delays_or_none(sheet), delays_or_none(sheet)], [delays_or_none(right)] * 2)
            for old, text, reads, plan in before:
                self.assertEqual((old, str(old), [old.reads(where) for where in ("up", "here", "down")], old.plan()), (old, text, reads, plan))

    def test_free(self):
        sheet = Sheet.free(9, ("c",), {"c": 8}, b={"c": Number(8)}, a={"c": Up("c")})
        self.assertEqual(sheet, Sheet(9, ["c"], {"c": 8}, {"a": {"c": Up("c")}, "b": {"c": Number(8)}}, None))
        self.check(caught(Sheet.free, 2, ["c"], {"c": 2}, **{"if": 0}), InvalidTop, column="c")
        self.check(caught(Sheet.free, 2, ["c"], {"c": 1}, **{"if": 0}), InvalidKinds, kind=None, column=None)
        self.check(caught(Sheet.free, 2, ["c"], {"c": 1}, b=0, a={"c": 1}), InvalidKinds, kind="a", column="c")


class TextTest(CheckedCase):
    def test_the_text_of_blocks(self):
        self.assertEqual(str(blocks()), BLOCKS_TEXT)
        self.assertEqual(str(free_blocks()), BLOCKS_TEXT[:BLOCKS_TEXT.index("plan")] + "plan end 0 item 0\n")

    def test_texts_are_in_the_told_sequence(self):
        row = {"a": Number(0), "z": Choice(Number(0), (0, 2), Up("a"), Down("z")), "m": Number(8)}
        kinds = {"w": dict(reversed(row.items())), "b": row}
        sheet = Sheet(9, ["z", "m", "a"], {"a": 1, "m": 2, "z": 3}, kinds, [{"w": 1, "b": 1}, {"w": 0}])
        formulas = "if 0 in {0, 2} then up a else down z\n8\n0\n"
        self.assertEqual(str(sheet), "modulus 9\ncolumns z m a\ntop 3 2 1\nkind b\n" + formulas + "kind w\n" + formulas
                         + "plan b 1 w 1\nplan w 0\n")

    def test_repr(self):
        self.assertEqual([repr(blocks()), repr(small(9))],
                         ["Sheet(2, ('n', 'u'), ['end', 'item'])", "Sheet(9, ('n',), ['a'])"])

    def test_texts_tell_sheets_apart(self):
        sheets = [blocks(), free_blocks(), peek(), blocks().with_top(u=1), *map(random_sheet, range(60))]
        for one in sheets:
            for other in sheets:
                self.assertEqual(str(one) == str(other), one == other)

    def test_formulas_in_a_text_are_their_texts(self):
        for sheet in map(random_sheet, range(20)):
            lines = str(sheet).split("\n")
            for kind in sheet.kinds():
                at = lines.index("kind " + kind)
                self.assertEqual(lines[at + 1:at + 1 + len(sheet.columns)],
                                 [str(sheet.formula(kind, column)) for column in sheet.columns])
        self.assertIn(str(TOTAL), str(blocks()).split("\n"))


if __name__ == "__main__":
    unittest.main()
