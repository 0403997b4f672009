"""Promise [23]: where each name stands, and how it is called."""

import importlib
import inspect
import itertools
import unittest

from tests.samples import I, R, S, X

FUNCTIONS = {
    "holdmodes.rules": {"rules_error": ("value",), "against": ("rules", "lot")},
    "holdmodes.modes": {
        "is_mode": ("rules", "value"), "covers": ("one", "other"), "joined": ("one", "other"),
        "goes": ("rules", "one", "other"),
    },
}
CLASSES = {
    "holdmodes.errors": ("HoldError", "BadMode", "BadText", "BadYard", "Barred", "Full", "NothingToUndo", "NoAct",
                         "NoHold", "NoHolder", "NoThing"),
}
CALLS = (
    ("holdmodes.rules", "rules_error", (R,), None),
    ("holdmodes.rules", "rules_error", ((7, ()),), "acts"),
    ("holdmodes.rules", "against", (R, (0,)), (1, 2)),
    ("holdmodes.modes", "is_mode", (R, S), True),
    ("holdmodes.modes", "is_mode", (R, ((0,), (1,))), False),
    ("holdmodes.modes", "covers", (X, I), True),
    ("holdmodes.modes", "covers", (I, X), False),
    ("holdmodes.modes", "joined", (S, I), ((0,), (0, 1))),
    ("holdmodes.modes", "goes", (R, S, I), False),
    ("holdmodes.modes", "goes", (R, I, I), True),
)


class Interface(unittest.TestCase):

    def test_functions_are_defined_in_their_modules(self):
        for module, functions in FUNCTIONS.items():
            for name in functions:
                function = getattr(importlib.import_module(module), name)
                self.assertTrue(inspect.isfunction(function), name)
                self.assertEqual((module, name), (function.__module__, function.__qualname__))

    def test_classes_are_defined_in_their_modules(self):
        for module, names in CLASSES.items():
            for name in names:
                found = getattr(importlib.import_module(module), name)
                self.assertTrue(inspect.isclass(found), name)
                self.assertEqual((module, name), (found.__module__, found.__qualname__))

    def test_arguments_have_their_names(self):
        for module, functions in FUNCTIONS.items():
            for name, arguments in functions.items():
                told = inspect.signature(getattr(importlib.import_module(module), name)).parameters
                self.assertEqual(arguments, tuple(told), name)

    def test_calls_by_position_and_by_name(self):
        for module, name, told, result in CALLS:
            function = getattr(importlib.import_module(module), name)
            names = FUNCTIONS[module][name]
            for many in range(len(told) + 1):
                for order in itertools.permutations(list(zip(names, told))[many:]):
                    self.assertEqual(result, function(*told[:many], **dict(order)), (name, many, order))

    def test_each_function_is_called_here(self):
        called = {(module, name) for module, name, _, _ in CALLS}
        self.assertEqual({(module, name) for module in FUNCTIONS for name in FUNCTIONS[module]}, called)


if __name__ == "__main__":
    unittest.main()
