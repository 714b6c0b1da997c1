"""The interface of what is written: its names, parameters and places, and the form of the package."""

import ast
import inspect
import pathlib
import unittest

from belowneeds import cuts, filling, formulas, sheets

PACKAGE = pathlib.Path(formulas.__file__).parent
PARAMETERS = {
    formulas: {
        "Number": "value", "Here": "column", "Up": "column", "Down": "column", "Plus": "left, right",
        "Least": "left, right", "Most": "left, right", "Same": "left, right", "Choice": "test, chosen, then, other",
    },
    sheets: {"Sheet": "modulus, columns, top, kinds, plan=None"},
    cuts: {"Cut": "sheet, word, *, foot=None"},
    filling: {"Filler": "sheet", "tried": "filler, *kinds"},
}
METHODS = {
    formulas.Formula: {
        "nodes": "self", "columns_read": "self, where", "put": "self, number, formula",
        "fits": "self, modulus, columns", "work_out": "self, modulus, above, own, below",
        "need": "self, modulus, above, own, below", "met": "self, modulus, above, own, below",
        "read": "text", "__len__": "self", "__add__": "self, other", "__str__": "self", "__repr__": "self",
        "__eq__": "self, other",
    },
    sheets.Sheet: {
        "kinds": "self", "top": "self", "formula": "self, kind, column", "plan": "self", "reads": "self, where",
        "allowed": "self, place", "place_behind": "self, word, *, place=0", "is_word": "self, value",
        "free": "cls, modulus, columns, top, **kinds", "__eq__": "self, other",
    },
    cuts.Cut: {
        "value_at": "self, row, column", "row_values": "self, row", "empty_cells": "self", "__len__": "self",
    },
    filling.Filler: {
        "take": "self, kind", "take_all": "self, *kinds", "copy": "self", "trial": "self",
    },
}
PROPERTIES = {
    formulas.Formula: ("depth",), sheets.Sheet: ("modulus", "columns", "places"),
    cuts.Cut: ("sheet", "word", "foot", "rounds"), filling.Filler: ("held", "given", "word"),
}


def parameters_of(function):
    return str(inspect.signature(function)).strip("()")


class InterfaceTest(unittest.TestCase):
    def test_names_and_parameters(self):
        for module, names in PARAMETERS.items():
            for name, parameters in names.items():
                value = getattr(module, name)
                self.assertEqual((name, parameters_of(value)), (name, parameters))
                self.assertEqual(value.__module__, module.__name__)

    def test_methods_stand_in_the_classes_themselves(self):
        for made, methods in METHODS.items():
            for name, parameters in methods.items():
                method = vars(made)[name]
                method = getattr(method, "__func__", method)
                self.assertEqual((name, parameters_of(method)), (name, parameters))

    def test_read_is_static_and_free_is_of_the_class(self):
        self.assertIsInstance(vars(formulas.Formula)["read"], staticmethod)
        self.assertIsInstance(vars(sheets.Sheet)["free"], classmethod)

    def test_properties_stand_in_the_classes_themselves_and_are_not_set(self):
        for made, names in PROPERTIES.items():
            for name in names:
                self.assertIsInstance(vars(made)[name], property)
                self.assertIsNone(vars(made)[name].fset)


class FormTest(unittest.TestCase):
    def test_files_functions_and_lines_are_short_and_plain(self):
        files = sorted(PACKAGE.glob("*.py"))
        self.assertIn("__init__.py", [file.name for file in files])
        for file in files:
            text = file.read_text(encoding="utf-8")
            lines = text.splitlines()
            self.assertLessEqual(len(lines), 399, file.name)
            self.assertLessEqual(max(map(len, lines)), 120, file.name)
            self.assertTrue(all(letter == "\n" or " " <= letter <= "~" for letter in text), file.name)
            for node in ast.walk(ast.parse(text)):
                if isinstance(node, ast.FunctionDef):
                    self.assertLessEqual(node.end_lineno - node.lineno + 1, 40, f"{file.name}: {node.name}")

    def test_only_modules_of_the_package_are_imported(self):
        for file in sorted(PACKAGE.glob("*.py")):
            for node in ast.walk(ast.parse(file.read_text(encoding="utf-8"))):
                self.assertNotIsInstance(node, ast.Import, file.name)
                if isinstance(node, ast.ImportFrom):
                    self.assertTrue(node.module.startswith("belowneeds."), file.name)


if __name__ == "__main__":
    unittest.main()
