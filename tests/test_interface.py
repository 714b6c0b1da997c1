"""The interface of what is written: its names, parameters and places, and the form of the package."""

import ast
import inspect
import pathlib
import unittest

from belowneeds import (
    alike, cuts, desk, endless, filling, fills, followed, formulas, fullness, judge, layers, lengths, machines, papers, sheets, tables, texts,
)

PACKAGE = pathlib.Path(formulas.__file__).parent
TWO_COLUMNS = "one, column, other, other_column"
PARAMETERS = {
    formulas: {
        "Number": "value", "Here": "column", "Up": "column", "Down": "column", "Plus": "left, right",
        "Least": "left, right", "Most": "left, right", "Same": "left, right", "Choice": "test, chosen, then, other",
    },
    sheets: {"Sheet": "modulus, columns, top, kinds, plan=None"},
    fills: {"Fill": "lead, turn", "first_refused": "sheet, fill"},
    cuts: {"Cut": "sheet, word, *, foot=None"},
    tables: {
        "entries": "sheet", "blank": "sheet", "foot_table": "sheet, foot", "is_table": "sheet, value",
        "is_rising": "sheet, value", "row_under": "sheet, above, kind, table", "table_above": "sheet, kind, table",
        "table_of": "sheet, word, *, place=0, foot=None",
    },
    layers: {
        "layer_tables": "sheet, *, limit=400", "still_from": "sheet, *, limit=400",
        "ways": "sheet, place, table, *, limit=400", "word_of": "sheet, place, table, *, limit=400",
        "standings": "sheet, many, *, limit=400",
    },
    endless: {"Endless": "sheet, fill"},
    fullness: {
        "is_full": "sheet, column, *, limit=400", "column_delay": "sheet, column, *, limit=400",
        "delays": "sheet, *, limit=400", "sheet_delay": "sheet, *, limit=400",
        "late_word": "sheet, column, *, limit=400", "first_open_row": "sheet, column, *, limit=400",
        "open_fill": "sheet, column, *, limit=400",
    },
    filling: {"Filler": "sheet", "tried": "filler, *kinds"},
    texts: {"read_sheet": "text", "read_fill": "text"},
    papers: {
        "full_paper": "sheet, column, *, limit=400", "open_paper": "sheet, column, *, limit=400",
        "is_full_paper": "sheet, column, delay, value", "is_open_paper": "sheet, column, value",
    },
    alike: {
        "are_alike": f"{TWO_COLUMNS}, *, limit=400, pairs=1500", "first_unlike": f"{TWO_COLUMNS}, *, limit=400, pairs=1500",
        "alike_paper": f"{TWO_COLUMNS}, *, limit=400, pairs=1500", "is_alike_paper": f"{TWO_COLUMNS}, value",
        "is_unlike_paper": f"{TWO_COLUMNS}, value", "joint_tables": "one, other, *, pairs=1500",
        "change_told": "sheet, kind, column, formula, seen, *, limit=400, pairs=1500",
    },
    followed: {
        "never_followed": "sheet, *, limit=400", "where_followed": "sheet, kind, column, number, *, limit=400",
        "is_followed": "sheet, kind, column, number, fill, row", "constant_value": "sheet, column, *, limit=400",
    },
    machines: {"Machine": "delay, states", "machine_of": "sheet, *, limit=400", "from_machine": "machine, word"},
    lengths: {
        "Lengths": "sheet, word, foot, column, *, limit=400", "word_counts": "sheet, foot, column, many, *, limit=400",
    },
    judge: {"is_claim": "value", "is_certificate": "claim, value", "certificate_of": "claim"},
    desk: {"Desk": "", "tried": "desk, *commands"},
}
METHODS = {
    formulas.Formula: {
        "nodes": "self", "columns_read": "self, where", "put": "self, number, formula",
        "fits": "self, modulus, columns", "work_out": "self, modulus, above, own, below",
        "need": "self, modulus, above, own, below", "met": "self, modulus, above, own, below",
        "read": "text", "__len__": "self", "__add__": "self, other", "__str__": "self", "__repr__": "self",
        "__eq__": "self, other",
    },
    sheets.Sheet: {
        "kinds": "self", "top": "self", "formula": "self, kind, column", "plan": "self", "reads": "self, where",
        "allowed": "self, place", "place_behind": "self, word, *, place=0", "is_word": "self, value",
        "free": "cls, modulus, columns, top, **kinds", "with_formula": "self, kind, column, formula",
        "with_top": "self, **values", "__eq__": "self, other", "__str__": "self", "__repr__": "self",
    },
    fills.Fill: {
        "kind_at": "self, row", "first": "self, many", "behind": "self, many", "of": "cls, *kinds",
        "__eq__": "self, other", "__str__": "self", "__repr__": "self",
    },
    cuts.Cut: {
        "value_at": "self, row, column", "row_values": "self, row", "empty_cells": "self", "__len__": "self",
        "next_of": "self, row, column", "walk": "self, row, column", "cells_met": "self, row, column",
        "depth_at": "self, row, column",
    },
    endless.Endless: {
        "value_at": "self, row, column", "row_values": "self, row", "true_table": "self, row",
        "first_empty": "self, column", "rows": "self, many", "depth_at": "self, row, column",
        "next_of": "self, row, column", "walk": "self, row, column", "__eq__": "self, other",
    },
    filling.Filler: {
        "take": "self, kind", "take_all": "self, *kinds", "copy": "self", "trial": "self",
    },
    machines.Machine: {"run": "self, word", "reduced": "self", "__len__": "self", "__eq__": "self, other"},
    lengths.Lengths: {"value_for": "self, many"},
    desk.Desk: {
        "do": "self, command", "do_all": "self, *commands", "undo": "self", "names": "self", "sheet_of": "self, name", "log": "self",
        "__contains__": "self, name", "__len__": "self", "trial": "self",
    },
}
PROPERTIES = {
    sheets.Sheet: ("modulus", "columns", "places"),
    fills.Fill: ("lead", "turn"), endless.Endless: ("sheet", "fill", "begin", "period"),
    cuts.Cut: ("sheet", "word", "foot", "rounds"), filling.Filler: ("held", "given", "word"),
    machines.Machine: ("delay", "states"), lengths.Lengths: ("lead", "turn"),
}


def parameters_of(function):
    return str(inspect.signature(function)).strip("()")


class InterfaceTest(unittest.TestCase):
    def test_names_and_parameters(self):
        for module, names in PARAMETERS.items():
            for name, parameters in names.items():
                value = getattr(module, name)
                self.assertEqual((name, parameters_of(value)), (name, parameters))
                self.assertEqual(value.__module__, module.__name__)

    def test_methods_stand_in_the_classes_themselves(self):
        for made, methods in METHODS.items():
            for name, parameters in methods.items():
                method = vars(made)[name]
                method = getattr(method, "__func__", method)
                self.assertEqual((name, parameters_of(method)), (name, parameters))

    def test_read_is_static_and_free_and_of_are_of_the_class(self):
        self.assertIsInstance(vars(formulas.Formula)["read"], staticmethod)
        self.assertIsInstance(vars(sheets.Sheet)["free"], classmethod)
        self.assertIsInstance(vars(fills.Fill)["of"], classmethod)
        self.assertEqual(judge.KINDS_OF_CLAIMS, ("full", "not full", "alike", "unlike", "followed"))

    def test_properties_stand_in_the_classes_themselves_and_are_not_set(self):
        for made, names in PROPERTIES.items():
            for name in names:
                self.assertIsInstance(vars(made)[name], property)
                self.assertIsNone(vars(made)[name].fset)


def trees():
    """The parsed files of the package, by name."""
    return {file.name: ast.parse(file.read_text(encoding="utf-8")) for file in sorted(PACKAGE.glob("*.py"))}


def nodes_of(kind):
    """All nodes of this kind in the package."""
    return [node for tree in trees().values() for node in ast.walk(tree) if isinstance(node, kind)]


def decorators(function):
    return [node.id for node in function.decorator_list]


def first_star(call):
    """The position of the first argument of a call that has a star, or None."""
    return next((at for at, part in enumerate(call.args) if isinstance(part, ast.Starred)), None)


def has_two_stars(call):
    return any(word.arg is None for word in call.keywords)


def is_short(node, told):
    """Whether this is a name, or an attribute off a name that is no property; told has the names of the properties."""
    if isinstance(node, ast.Attribute):
        return isinstance(node.value, ast.Name) and node.attr not in told
    return isinstance(node, ast.Name)


def is_plain(node, told):
    """Whether this may stand behind a star, and beside two: a short one, a literal, or a list, tuple or dict of these."""
    if isinstance(node, ast.Starred):
        return is_plain(node.value, told)
    if isinstance(node, (ast.List, ast.Tuple)):
        return all(is_plain(part, told) for part in node.elts)
    if isinstance(node, ast.Dict):
        return all(part is not None and is_plain(part, told) for part in [*node.keys, *node.values])
    return isinstance(node, ast.Constant) or is_short(node, told)


def keeps_to_stars(call, told):
    """Whether a call with stars keeps to the rule (L7, calls with stars)."""
    begin = 0 if has_two_stars(call) else first_star(call)
    behind = [*call.args[begin:], *[word.value for word in call.keywords]]
    if not is_short(call.func, told) or not all(is_plain(node, told) for node in behind):
        return False
    if has_two_stars(call):
        return len(call.keywords) == 1 and is_short(call.keywords[0].value, told)
    places = [(word.value.lineno, word.value.col_offset) for word in call.keywords]
    star = call.args[begin]
    return all(place > (star.lineno, star.col_offset) for place in places)


class FormTest(unittest.TestCase):
    def test_files_functions_and_lines_are_short_and_plain(self):
        files = sorted(PACKAGE.glob("*.py"))
        self.assertIn("__init__.py", [file.name for file in files])
        for file in files:
            text = file.read_text(encoding="utf-8")
            lines = text.splitlines()
            self.assertLessEqual(len(lines), 399, file.name)
            self.assertLessEqual(max(map(len, lines)), 120, file.name)
            self.assertTrue(all(letter == "\n" or " " <= letter <= "~" for letter in text), file.name)
        for node in nodes_of(ast.FunctionDef):
            self.assertLessEqual(node.end_lineno - node.lineno + 1, 40, node.name)

    def test_only_modules_of_the_package_are_imported_and_no_two_from_each_other(self):
        self.assertEqual(nodes_of(ast.Import), [])
        above = {}
        for name, tree in trees().items():
            found = [node.module for node in tree.body if isinstance(node, ast.ImportFrom)]
            self.assertTrue(all(module.startswith("belowneeds.") for module in found), name)
            above[name] = {module.split(".")[1] + ".py" for module in found}
        while above:
            free = [name for name in above if not above[name] & set(above)]
            self.assertTrue(free, f"these import from each other: {sorted(above)}")
            above = {name: modules for name, modules in above.items() if name not in free}

    def test_a_property_without_a_setter_is_no_assigned_attribute_and_no_method(self):
        functions = nodes_of(ast.FunctionDef)
        names = {node.name for node in functions if "property" in decorators(node)}
        methods = {node.name for node in functions if "property" not in decorators(node)}
        assigned = {node.attr for node in nodes_of(ast.Attribute) if isinstance(node.ctx, ast.Store)}
        self.assertIn("begin", names)
        self.assertEqual([names & assigned, names & methods], [set(), set()])

    def test_a_property_changes_nothing_but_one_answer_that_it_keeps(self):
        stored = [node for node in nodes_of(ast.Attribute) if isinstance(node.ctx, ast.Store)]
        read = [node.attr for node in nodes_of(ast.Attribute) if isinstance(node.ctx, ast.Load)]
        keeping = []
        for node in nodes_of(ast.FunctionDef):
            changes = [part for part in ast.walk(node) if isinstance(part, (ast.Attribute, ast.Subscript)) and isinstance(part.ctx, ast.Store)]
            if "property" in decorators(node) and changes:
                test, answer = node.body[1:]
                name = test.body[0].targets[0].attr
                self.assertEqual([len(test.body), ast.unparse(test.test), ast.unparse(answer)], [1, f"self.{name} is None", f"return self.{name}"])
                # It is made None at first, and read nowhere else.
                self.assertEqual([[part.attr for part in stored].count(name), read.count(name)], [2, 2])
                keeping.append(node.name)
        self.assertEqual(keeping, ["text"])

    def test_no_attribute_has_the_name_of_a_method_and_no_generator_that_of_another_function(self):
        functions = nodes_of(ast.FunctionDef)
        assigned = {node.attr for node in nodes_of(ast.Attribute) if isinstance(node.ctx, ast.Store)}
        self.assertEqual(assigned & {node.name for node in functions}, set())
        yielding = [node.name for node in functions if any(isinstance(part, ast.Yield) for part in ast.walk(node))]
        self.assertEqual(sorted(yielding), ["empty_cells", "nodes", "rows"])
        for name in yielding:
            self.assertEqual([node.name for node in functions].count(name), 1)

    def test_no_attribute_and_no_method_has_a_name_that_builtin_values_need(self):
        barred = "items keys values pop update append clear extend insert remove reverse setdefault sort args encode decode hex fromhex format"
        barred = {*barred.split(), "conjugate", "from_bytes", "to_bytes", "bit_count", "as_integer_ratio"}
        assigned = {node.attr for node in nodes_of(ast.Attribute) if isinstance(node.ctx, ast.Store)}
        self.assertEqual([assigned & barred, {node.name for node in nodes_of(ast.FunctionDef)} & barred], [set(), set()])

    def test_no_star_stands_in_an_index(self):
        indexes = nodes_of(ast.Subscript)
        self.assertGreater(len(indexes), 200)
        for node in indexes:
            stars = [part.lineno for part in ast.walk(node.slice) if isinstance(part, ast.Starred)]
            self.assertEqual(stars, [], ast.unparse(node))

    def test_behind_stars_of_calls_stand_only_names_attributes_and_literals(self):
        told = [node.name for node in nodes_of(ast.FunctionDef) if "property" in decorators(node)]
        calls = [node for node in nodes_of(ast.Call) if first_star(node) is not None or has_two_stars(node)]
        self.assertGreater(len(calls), 5)
        for node in calls:
            self.assertTrue(keeps_to_stars(node, told), (node.lineno, ast.unparse(node)))

    def test_the_rule_of_stars_tells_right_calls_from_wrong_ones(self):
        for text in ("f(*xs)", "f(k, *xs)", "f(g(1), *xs)", "f(*xs, n, sep=n)", "f(*box.rows)", "f(*(a, [1, box.b]), {1: c})", "f(**d)", "f(**box.d)", "f(a, **d)", "box.f(*xs)"):
            self.assertTrue(keeps_to_stars(ast.parse(text, mode="eval").body, ["many"]), text)
        for text in ("f(*g(1))", "f(*box.g(1))", "f(*box.inner.rows)", "f(*xs[0])", "f(*(a, g(1)))", "f(*[x for x in xs])", "f(*xs, g(1))", "f(*xs, n=g(1))", "f(*(xs or ys))",
                     "f(*box.many)", "f(n=1, *xs)", "f(n=1, **d)", "f(**d, **e)", "f(**{1: 2})", "f(**g(1))", "f(g(1), **d)", "f(*a + b)", "a.b.f(*xs)", "f(1)(*xs)", "f(*[*g(1)])"):
            self.assertFalse(keeps_to_stars(ast.parse(text, mode="eval").body, ["many"]), text)

    def test_in_texts_of_objects_a_sum_joins_only_what_is_plainly_a_text(self):
        # Beside __add__, a + in __str__ and __repr__ stands between str(..), written texts and f-strings alone.
        told = [node for node in nodes_of(ast.FunctionDef) if node.name in ("__str__", "__repr__", "_as_text", "_lines")]
        self.assertGreater(len(told), 10)
        for function in told:
            for node in ast.walk(function):
                self.assertFalse(isinstance(node, ast.BinOp) and isinstance(node.op, ast.Add), (function.name, function.lineno))

    def test_ranges_and_the_like_are_iterated_at_once(self):
        for tree in trees().values():
            parents = {child: node for node in ast.walk(tree) for child in ast.iter_child_nodes(node)}
            for node in ast.walk(tree):
                if isinstance(node, ast.Call) and isinstance(node.func, ast.Name) and node.func.id in ("range", "zip", "enumerate", "reversed"):
                    above = parents[node]
                    taken = isinstance(above, ast.Call) and isinstance(above.func, ast.Name)
                    taken = taken and above.func.id in ("list", "tuple", "dict", "enumerate", "zip", "sorted")
                    looped = isinstance(above, (ast.For, ast.comprehension)) and above.iter is node
                    taken = taken or (node.func.id == "range" and ast.unparse(above).startswith("len(range("))
                    kept = isinstance(above, ast.Assign) and node.func.id == "range"
                    self.assertTrue(taken or looped or kept, (node.lineno, ast.unparse(above)))

    def test_only_plain_words_and_signs(self):
        for node in nodes_of(ast.Constant):
            if isinstance(node.value, str):
                self.assertNotIn(chr(37), node.value)
        names = {node.id for node in nodes_of(ast.Name)} | {node.arg for node in nodes_of(ast.arg)}
        self.assertEqual(names & {"type", "eval", "exec", "compile", "input", "open", "id", "hash", "map", "filter", "next", "round", "vars"}, set())
        for node in nodes_of(ast.Compare):
            for sign, other in zip(node.ops, node.comparators):
                if isinstance(sign, (ast.Is, ast.IsNot)):
                    self.assertTrue(isinstance(other, ast.Constant) and other.value in (None, True, False))

    def test_no_generator_expressions_and_no_sort(self):
        self.assertEqual(nodes_of(ast.GeneratorExp), [])
        self.assertNotIn("sort", [node.attr for node in nodes_of(ast.Attribute)])


if __name__ == "__main__":
    unittest.main()
