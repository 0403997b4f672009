"""Promise [23]: where each name stands, and how it is called."""

import importlib
import inspect
import itertools
import unittest

from holdmodes.desks import Desk
from holdmodes.yards import Yard
from tests.samples import I, R, S, T, X, held_yard

BOTH = ((0, 1, 2), (0, 1, 2))
HOLDS = ((0, 0, I), (0, 1, X), (1, 0, S))
K = (((0, S), (1, X)), ((1, S), (0, X)))
FUNCTIONS = {
    "holdmodes.rules": {"rules_error": ("value",), "against": ("rules", "lot")},
    "holdmodes.modes": {
        "is_mode": ("rules", "value"), "covers": ("one", "other"), "joined": ("one", "other"),
        "goes": ("rules", "one", "other"),
    },
    "holdmodes.holds": {
        "tree_error": ("value",), "around": ("tree", "thing"), "are_holds": ("rules", "tree", "value"),
        "fault": ("rules", "tree", "holds"), "may": ("tree", "holds", "holder", "thing"),
        "clash": ("rules", "tree", "holds"), "meeting": ("rules", "one", "other"),
        "is_meeting": ("rules", "one", "other", "value"),
    },
    "holdmodes.tables": {
        "table": ("rules", "modes"), "table_error": ("rules", "modes", "value"), "full": ("rules", "mode"),
        "alike": ("rules", "one", "other"), "kinds": ("rules",), "serves": ("rules", "modes", "value"),
        "fewest": ("rules", "modes"), "lost": ("rules", "modes", "grouping"), "groups": ("rules", "modes", "most"),
    },
    "holdmodes.raising": {
        "ups": ("modes", "at", "wish"), "unjoined": ("modes",), "are_raises": ("modes", "value"),
        "standoff": ("rules", "modes", "raises"), "is_standoff": ("rules", "modes", "raises", "value"),
    },
    "holdmodes.plans": {
        "is_plan": ("rules", "tree", "value"), "least_holds": ("tree", "plan"),
        "go_beside": ("rules", "tree", "plan", "other"), "meet": ("rules", "tree", "plan", "other"),
        "gathered": ("tree", "plan", "most"), "spare": ("tree", "plan", "most"),
        "is_gathered": ("rules", "tree", "plan", "most", "value"),
    },
    "holdmodes.courses": {
        "are_courses": ("rules", "value"), "is_run": ("rules", "courses", "value"), "waits": ("rules", "courses", "run"),
        "stuck": ("rules", "courses"), "is_straight": ("courses",), "straightened": ("courses",),
    },
    "holdmodes.texts": {
        "mode_text": ("mode",), "rules_text": ("rules",), "tree_text": ("tree",), "read_mode": ("rules", "value"),
        "read_rules": ("value",), "read_tree": ("value",),
    },
}
CLASSES = {
    "holdmodes.errors": ("HoldError", "BadMode", "BadText", "BadYard", "Barred", "Full", "NothingToUndo", "NoAct",
                         "NoHold", "NoHolder", "NoThing"),
    "holdmodes.yards": ("Yard",),
    "holdmodes.desks": ("Desk",),
}
METHODS = {
    Yard: {
        "__init__": ("rules", "tree"), "ask": ("holder", "thing", "act"), "take": ("holder", "thing", "mode"),
        "leave": ("holder",), "undo": (), "may": ("holder", "thing"), "could": ("holder", "thing", "act"),
        "tried": ("function",),
    },
    Desk: {"__init__": ("yard",), "say": ("line",)},
}
PROPERTIES = {Yard: ("rules", "tree", "holds", "version", "last"), Desk: ("history",)}
CALLS = (
    ("holdmodes.rules", "rules_error", (R,), None),
    ("holdmodes.rules", "rules_error", ((7, ()),), "acts"),
    ("holdmodes.rules", "against", (R, (0,)), (1, 2)),
    ("holdmodes.modes", "is_mode", (R, S), True),
    ("holdmodes.modes", "is_mode", (R, ((0,), (1,))), False),
    ("holdmodes.modes", "covers", (X, I), True),
    ("holdmodes.modes", "covers", (I, X), False),
    ("holdmodes.modes", "joined", (S, I), ((0,), (0, 1))),
    ("holdmodes.modes", "goes", (R, S, I), False),
    ("holdmodes.modes", "goes", (R, I, I), True),
    ("holdmodes.holds", "tree_error", (T,), None),
    ("holdmodes.holds", "tree_error", ((None, 1),), 1),
    ("holdmodes.holds", "around", (T, 3), (0, 1, 3)),
    ("holdmodes.holds", "are_holds", (R, T, HOLDS), True),
    ("holdmodes.holds", "fault", (R, T, HOLDS), ("go", 0, 0, 1)),
    ("holdmodes.holds", "may", (T, HOLDS, 0, 3), (1,)),
    ("holdmodes.holds", "clash", (R, T, HOLDS), (1, 0, 1, 1, 0)),
    ("holdmodes.holds", "meeting", (R, S, S), None),
    ("holdmodes.holds", "is_meeting", (R, S, I, ((None, 0), ((0, 0, S), (1, 0, I), (1, 1, X)))), True),
    ("holdmodes.tables", "table", (R, (S, X, I)), ((0, 0), (2, 2))),
    ("holdmodes.tables", "table_error", (R, (S, X, I), ((0, 0),)), ("bars", 2, 2)),
    ("holdmodes.tables", "full", (R, X), BOTH),
    ("holdmodes.tables", "alike", (R, X, BOTH), True),
    ("holdmodes.tables", "kinds", ((1, ()),), (((), ()), ((), (0,)), ((0,), (0,)))),
    ("holdmodes.tables", "serves", (R, (X, S), (S, BOTH)), True),
    ("holdmodes.tables", "fewest", (R, (X, S)), (S, BOTH)),
    ("holdmodes.tables", "lost", (R, (S, X, I), (0, 1, 0)), 2),
    ("holdmodes.tables", "groups", (R, (S, X, I), 2), (0, 0, 1)),
    ("holdmodes.raising", "ups", ((S, X, I, BOTH), 0, I), (3,)),
    ("holdmodes.raising", "unjoined", ((S, X, I),), (0, 1)),
    ("holdmodes.raising", "are_raises", ((S, BOTH), ((0, 1),)), True),
    ("holdmodes.raising", "standoff", (R, (S, BOTH), ((0, 1),)), (0, 0)),
    ("holdmodes.raising", "is_standoff", (R, (S, BOTH), ((0, 1),), (0, 0, 0)), True),
    ("holdmodes.plans", "is_plan", (R, T, ((1, 0), (3, 1))), True),
    ("holdmodes.plans", "least_holds", (T, ((1, 1),)), ((0, I), (1, X))),
    ("holdmodes.plans", "go_beside", (R, T, ((1, 0),), ((3, 1),)), False),
    ("holdmodes.plans", "meet", (R, T, ((1, 0),), ((3, 1),)), (3, 0, 1)),
    ("holdmodes.plans", "gathered", (T, ((3, 1),), 2), ((0, I), (1, X))),
    ("holdmodes.plans", "spare", (T, ((2, 0), (3, 0)), 1), 2),
    ("holdmodes.plans", "is_gathered", (R, T, ((3, 1),), 2, ((0, I), (1, X))), True),
    ("holdmodes.courses", "are_courses", (R, K), True),
    ("holdmodes.courses", "is_run", (R, K, (0, 0, 1, 1)), True),
    ("holdmodes.courses", "waits", (R, K, (0, 1)), ((0, 1), (1, 0))),
    ("holdmodes.courses", "stuck", (R, K), (0, 1)),
    ("holdmodes.courses", "is_straight", (K,), False),
    ("holdmodes.courses", "straightened", (K,), (((0, S), (1, X)), ((0, X), (1, S)))),
    ("holdmodes.texts", "mode_text", (((0,), (0, 1)),), "0/01"),
    ("holdmodes.texts", "rules_text", (R,), "3 00 22"),
    ("holdmodes.texts", "tree_text", (T,), ". 0 0 1"),
    ("holdmodes.texts", "read_mode", (R, "-/1"), I),
    ("holdmodes.texts", "read_rules", (" 3 00  22",), R),
    ("holdmodes.texts", "read_tree", (". 0 0 1",), T),
)
# Each method at a new object, with what it returns.
METHOD_CALLS = (
    (held_yard, "ask", (0, 3, 1), 3),
    (held_yard, "take", (2, 2, ((), ())), 3),
    (held_yard, "leave", (1,), 3),
    (held_yard, "undo", (), 1),
    (held_yard, "may", (0, 3), (1,)),
    (held_yard, "could", (1, 1, 0), (1, 0)),
    (held_yard, "tried", (len,), 5),
    (lambda: Desk(held_yard()), "say", ("on 3",), "0:1/1"),
)


def calls_by_name(told, names):
    """All ways to pass what is told: some by position, the others by their names in any order."""
    for many in range(len(told) + 1):
        for order in itertools.permutations(list(zip(names, told))[many:]):
            yield told[:many], dict(order)


class Interface(unittest.TestCase):

    def test_functions_are_defined_in_their_modules(self):
        for module, functions in FUNCTIONS.items():
            for name in functions:
                function = getattr(importlib.import_module(module), name)
                self.assertTrue(inspect.isfunction(function), name)
                self.assertEqual((module, name), (function.__module__, function.__qualname__))

    def test_classes_are_defined_in_their_modules(self):
        for module, names in CLASSES.items():
            for name in names:
                found = getattr(importlib.import_module(module), name)
                self.assertTrue(inspect.isclass(found), name)
                self.assertEqual((module, name), (found.__module__, found.__qualname__))

    def test_arguments_have_their_names(self):
        for module, functions in FUNCTIONS.items():
            for name, arguments in functions.items():
                told = inspect.signature(getattr(importlib.import_module(module), name)).parameters
                self.assertEqual(arguments, tuple(told), name)

    def test_calls_by_position_and_by_name(self):
        for module, name, told, result in CALLS:
            function = getattr(importlib.import_module(module), name)
            for given, named in calls_by_name(told, FUNCTIONS[module][name]):
                self.assertEqual(result, function(*given, **named), (name, given, named))

    def test_each_function_is_called_here(self):
        called = {(module, name) for module, name, _, _ in CALLS}
        self.assertEqual({(module, name) for module in FUNCTIONS for name in FUNCTIONS[module]}, called)

    def test_methods_are_defined_in_their_classes(self):
        for made, methods in METHODS.items():
            for name, arguments in methods.items():
                self.assertTrue(inspect.isfunction(vars(made)[name]), name)
                self.assertEqual(("self",) + arguments, tuple(inspect.signature(vars(made)[name]).parameters), name)
        for name in ("__getitem__", "__len__", "__eq__", "__str__"):
            self.assertTrue(inspect.isfunction(vars(Yard)[name]), name)

    def test_properties_are_defined_in_their_classes(self):
        for made, names in PROPERTIES.items():
            for name in names:
                self.assertIs(property, type(vars(made)[name]), name)
                self.assertIsNone(vars(made)[name].fset, name)

    def test_there_are_no_other_names_in_the_classes(self):
        for made in METHODS:
            found = {name for name in dir(made) if not name.startswith("_")}
            self.assertEqual(set(METHODS[made]) | set(PROPERTIES[made]), found | {"__init__"})

    def test_methods_by_position_and_by_name(self):
        for make, name, told, result in METHOD_CALLS:
            for given, named in calls_by_name(told, METHODS[type(make())][name]):
                self.assertEqual(result, getattr(make(), name)(*given, **named), (name, given, named))

    def test_each_method_is_called_here(self):
        called = {(type(make()), name) for make, name, _, _ in METHOD_CALLS}
        self.assertEqual({(made, name) for made in METHODS for name in METHODS[made] if name != "__init__"}, called)

    def test_classes_by_position_and_by_name(self):
        for given, named in calls_by_name((R, T), METHODS[Yard]["__init__"]):
            self.assertEqual((R, T), (Yard(*given, **named).rules, Yard(*given, **named).tree))
        for given, named in calls_by_name((held_yard(),), METHODS[Desk]["__init__"]):
            self.assertEqual("no NoHold", Desk(*given, **named).say("leave 2"))


if __name__ == "__main__":
    unittest.main()
