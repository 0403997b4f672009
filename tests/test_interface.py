"""Promise [23]: where each name stands, and how it is called."""

import importlib
import inspect
import itertools
import unittest

from tests.samples import I, R, S, T, X

BOTH = ((0, 1, 2), (0, 1, 2))
HOLDS = ((0, 0, I), (0, 1, X), (1, 0, S))
FUNCTIONS = {
    "holdmodes.rules": {"rules_error": ("value",), "against": ("rules", "lot")},
    "holdmodes.modes": {
        "is_mode": ("rules", "value"), "covers": ("one", "other"), "joined": ("one", "other"),
        "goes": ("rules", "one", "other"),
    },
    "holdmodes.holds": {
        "tree_error": ("value",), "around": ("tree", "thing"), "are_holds": ("rules", "tree", "value"),
        "fault": ("rules", "tree", "holds"), "may": ("tree", "holds", "holder", "thing"),
        "clash": ("rules", "tree", "holds"), "meeting": ("rules", "one", "other"),
        "is_meeting": ("rules", "one", "other", "value"),
    },
    "holdmodes.tables": {
        "table": ("rules", "modes"), "table_error": ("rules", "modes", "value"), "full": ("rules", "mode"),
        "alike": ("rules", "one", "other"), "kinds": ("rules",), "serves": ("rules", "modes", "value"),
        "fewest": ("rules", "modes"), "lost": ("rules", "modes", "grouping"), "groups": ("rules", "modes", "most"),
    },
    "holdmodes.raising": {
        "ups": ("modes", "at", "wish"), "unjoined": ("modes",), "are_raises": ("modes", "value"),
        "standoff": ("rules", "modes", "raises"), "is_standoff": ("rules", "modes", "raises", "value"),
    },
    "holdmodes.plans": {
        "is_plan": ("rules", "tree", "value"), "least_holds": ("tree", "plan"),
        "go_beside": ("rules", "tree", "plan", "other"), "meet": ("rules", "tree", "plan", "other"),
        "gathered": ("tree", "plan", "most"), "spare": ("tree", "plan", "most"),
        "is_gathered": ("rules", "tree", "plan", "most", "value"),
    },
}
CLASSES = {
    "holdmodes.errors": ("HoldError", "BadMode", "BadText", "BadYard", "Barred", "Full", "NothingToUndo", "NoAct",
                         "NoHold", "NoHolder", "NoThing"),
}
CALLS = (
    ("holdmodes.rules", "rules_error", (R,), None),
    ("holdmodes.rules", "rules_error", ((7, ()),), "acts"),
    ("holdmodes.rules", "against", (R, (0,)), (1, 2)),
    ("holdmodes.modes", "is_mode", (R, S), True),
    ("holdmodes.modes", "is_mode", (R, ((0,), (1,))), False),
    ("holdmodes.modes", "covers", (X, I), True),
    ("holdmodes.modes", "covers", (I, X), False),
    ("holdmodes.modes", "joined", (S, I), ((0,), (0, 1))),
    ("holdmodes.modes", "goes", (R, S, I), False),
    ("holdmodes.modes", "goes", (R, I, I), True),
    ("holdmodes.holds", "tree_error", (T,), None),
    ("holdmodes.holds", "tree_error", ((None, 1),), 1),
    ("holdmodes.holds", "around", (T, 3), (0, 1, 3)),
    ("holdmodes.holds", "are_holds", (R, T, HOLDS), True),
    ("holdmodes.holds", "fault", (R, T, HOLDS), ("go", 0, 0, 1)),
    ("holdmodes.holds", "may", (T, HOLDS, 0, 3), (1,)),
    ("holdmodes.holds", "clash", (R, T, HOLDS), (1, 0, 1, 1, 0)),
    ("holdmodes.holds", "meeting", (R, S, S), None),
    ("holdmodes.holds", "is_meeting", (R, S, I, ((None, 0), ((0, 0, S), (1, 0, I), (1, 1, X)))), True),
    ("holdmodes.tables", "table", (R, (S, X, I)), ((0, 0), (2, 2))),
    ("holdmodes.tables", "table_error", (R, (S, X, I), ((0, 0),)), ("bars", 2, 2)),
    ("holdmodes.tables", "full", (R, X), BOTH),
    ("holdmodes.tables", "alike", (R, X, BOTH), True),
    ("holdmodes.tables", "kinds", ((1, ()),), (((), ()), ((), (0,)), ((0,), (0,)))),
    ("holdmodes.tables", "serves", (R, (X, S), (S, BOTH)), True),
    ("holdmodes.tables", "fewest", (R, (X, S)), (S, BOTH)),
    ("holdmodes.tables", "lost", (R, (S, X, I), (0, 1, 0)), 2),
    ("holdmodes.tables", "groups", (R, (S, X, I), 2), (0, 0, 1)),
    ("holdmodes.raising", "ups", ((S, X, I, BOTH), 0, I), (3,)),
    ("holdmodes.raising", "unjoined", ((S, X, I),), (0, 1)),
    ("holdmodes.raising", "are_raises", ((S, BOTH), ((0, 1),)), True),
    ("holdmodes.raising", "standoff", (R, (S, BOTH), ((0, 1),)), (0, 0)),
    ("holdmodes.raising", "is_standoff", (R, (S, BOTH), ((0, 1),), (0, 0, 0)), True),
    ("holdmodes.plans", "is_plan", (R, T, ((1, 0), (3, 1))), True),
    ("holdmodes.plans", "least_holds", (T, ((1, 1),)), ((0, I), (1, X))),
    ("holdmodes.plans", "go_beside", (R, T, ((1, 0),), ((3, 1),)), False),
    ("holdmodes.plans", "meet", (R, T, ((1, 0),), ((3, 1),)), (3, 0, 1)),
    ("holdmodes.plans", "gathered", (T, ((3, 1),), 2), ((0, I), (1, X))),
    ("holdmodes.plans", "spare", (T, ((2, 0), (3, 0)), 1), 2),
    ("holdmodes.plans", "is_gathered", (R, T, ((3, 1),), 2, ((0, I), (1, X))), True),
)


class Interface(unittest.TestCase):

    def test_functions_are_defined_in_their_modules(self):
        for module, functions in FUNCTIONS.items():
            for name in functions:
                function = getattr(importlib.import_module(module), name)
                self.assertTrue(inspect.isfunction(function), name)
                self.assertEqual((module, name), (function.__module__, function.__qualname__))

    def test_classes_are_defined_in_their_modules(self):
        for module, names in CLASSES.items():
            for name in names:
                found = getattr(importlib.import_module(module), name)
                self.assertTrue(inspect.isclass(found), name)
                self.assertEqual((module, name), (found.__module__, found.__qualname__))

    def test_arguments_have_their_names(self):
        for module, functions in FUNCTIONS.items():
            for name, arguments in functions.items():
                told = inspect.signature(getattr(importlib.import_module(module), name)).parameters
                self.assertEqual(arguments, tuple(told), name)

    def test_calls_by_position_and_by_name(self):
        for module, name, told, result in CALLS:
            function = getattr(importlib.import_module(module), name)
            names = FUNCTIONS[module][name]
            for many in range(len(told) + 1):
                for order in itertools.permutations(list(zip(names, told))[many:]):
                    self.assertEqual(result, function(*told[:many], **dict(order)), (name, many, order))

    def test_each_function_is_called_here(self):
        called = {(module, name) for module, name, _, _ in CALLS}
        self.assertEqual({(module, name) for module in FUNCTIONS for name in FUNCTIONS[module]}, called)


if __name__ == "__main__":
    unittest.main()
