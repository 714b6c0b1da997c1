"""The interface, section "Errors"."""

import inspect
import unittest

from belowneeds import errors

CLASSES = {
    "SheetError": (ValueError, {
        "InvalidNumber": ("value",), "InvalidName": ("value",), "InvalidFormula": ("value",),
        "InvalidChosen": ("value",), "InvalidWhere": ("value",), "InvalidPosition": ("value",),
        "InvalidColumns": ("position",), "InvalidTop": ("column",), "InvalidKinds": ("kind", "column"),
        "InvalidPlan": ("place",), "InvalidWord": ("position",), "InvalidFill": ("part", "position"),
        "InvalidFoot": ("column",), "InvalidRow": ("value",), "InvalidCount": ("value",),
        "InvalidAbove": ("value",), "InvalidTable": ("value",), "InvalidStates": ("position",),
        "InvalidText": ("line",), "InvalidClaim": ("value",), "InvalidCommand": ("value",),
    }),
    "MissingError": (LookupError, {
        "UnknownColumn": ("value",), "UnknownKind": ("value",), "UnknownPlace": ("value",),
        "UnknownName": ("value",),
    }),
    "StateError": (RuntimeError, {
        "NotAllowed": ("row",), "NotFull": ("column",), "OtherPlan": (), "NotTurning": ("place",),
        "NameTaken": ("name",), "NothingToUndo": (),
    }),
    "LimitError": (ArithmeticError, {"TooMany": ("what", "limit")}),
}
LEAVES = [
    (name, base, attributes)
    for base, (_, classes) in CLASSES.items()
    for name, attributes in classes.items()
]
ANY_VALUES = (None, 3, True, "a", [1, [2]], {"a": ()}, object(), 10 ** 5000)


class ErrorsTest(unittest.TestCase):
    def test_the_classes_of_the_file_are_the_listed_ones(self):
        own = {name for name, value in vars(errors).items() if inspect.isclass(value)}
        self.assertEqual(own, set(CLASSES) | {name for name, _, _ in LEAVES})

    def test_each_base_derives_from_one_error_of_python(self):
        for base, (above, _) in CLASSES.items():
            self.assertEqual(getattr(errors, base).__bases__, (above,), base)

    def test_each_class_derives_from_the_class_in_front_of_it_alone(self):
        for name, base, _ in LEAVES:
            self.assertEqual(getattr(errors, name).__bases__, (getattr(errors, base),), name)

    def test_each_class_is_defined_in_the_file(self):
        for name in [*CLASSES, *[name for name, _, _ in LEAVES]]:
            self.assertEqual(getattr(errors, name).__module__, "belowneeds.errors", name)

    def test_attributes_by_position(self):
        for name, _, attributes in LEAVES:
            told = [f"{attribute} of {name}" for attribute in attributes]
            error = getattr(errors, name)(*told)
            self.assertEqual([getattr(error, attribute) for attribute in attributes], told, name)

    def test_attributes_by_name(self):
        for name, _, attributes in LEAVES:
            told = {attribute: f"{attribute} of {name}" for attribute in attributes}
            error = getattr(errors, name)(**told)
            self.assertEqual({attribute: getattr(error, attribute) for attribute in attributes}, told, name)

    def test_the_parameters_are_the_attributes(self):
        for name, _, attributes in LEAVES:
            if attributes:
                parameters = inspect.signature(getattr(errors, name)).parameters
                self.assertEqual(tuple(parameters), attributes, name)

    def test_an_error_can_be_made_with_any_values(self):
        for name, _, attributes in LEAVES:
            for value in ANY_VALUES:
                error = getattr(errors, name)(*[value for _ in attributes])
                for attribute in attributes:
                    self.assertIs(getattr(error, attribute), value)

    def test_attributes_are_needed(self):
        for name, _, attributes in LEAVES:
            if attributes:
                with self.assertRaises(TypeError, msg=name):
                    getattr(errors, name)()

    def test_errors_are_raised_and_caught_by_each_of_their_classes(self):
        for name, base, attributes in LEAVES:
            for above in (getattr(errors, name), getattr(errors, base), CLASSES[base][0]):
                with self.assertRaises(above):
                    raise getattr(errors, name)(*attributes)


if __name__ == "__main__":
    unittest.main()
