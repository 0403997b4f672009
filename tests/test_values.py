"""Promise [3]: any values, what stays as it is, the kinds of what is returned, and equal calls."""

import copy
import random
import unittest

from holdmodes.courses import are_courses, is_run, is_straight, straightened, stuck, waits
from holdmodes.desks import Desk
from holdmodes.errors import BadMode, BadText, BadYard, NoAct, NoHolder, NoThing
from holdmodes.holds import are_holds, around, clash, fault, is_meeting, may, meeting, tree_error
from holdmodes.modes import is_mode
from holdmodes.plans import gathered, go_beside, is_gathered, is_plan, least_holds, meet, spare
from holdmodes.raising import are_raises, is_standoff, standoff, unjoined, ups
from holdmodes.rules import rules_error
from holdmodes.tables import alike, fewest, full, groups, kinds, lost, serves, table, table_error
from holdmodes.texts import mode_text, read_mode, read_rules, read_tree, rules_text, tree_text
from holdmodes.yards import Yard
from tests.drawn import fair_holds, raise_cases, tangled_cases, tree_cases
from tests.samples import (
    FIELDS, I, R, S, T, X, drawn_holds, drawn_mode, drawn_plan, drawn_tree, held_yard, nested, odd_values,
    package_objects,
)

MODES = (S, X, I, ((0, 1), (0, 1)))
RAISES = ((0, 3), (2, 1))
PLAN = ((2, 0), (3, 0))
COURSES = (((0, S), (1, X)), ((1, S), (0, X)))
# Each function with an argument called value, what it is passed ahead of it, and values that are as they must be.
ASKED = (
    (rules_error, (), (R,)),
    (is_mode, (R,), MODES),
    (tree_error, (), (T, (None,))),
    (are_holds, (R, T), ((), ((0, 0, I), (0, 1, X), (1, 0, S)))),
    (is_meeting, (R, S, I), (((None, 0), ((0, 0, S), (1, 0, I), (1, 1, X))), meeting(R, S, I))),
    (table_error, (R, MODES), (table(R, MODES),)),
    (serves, (R, MODES), (MODES, fewest(R, MODES))),
    (are_raises, (MODES,), (RAISES,)),
    (is_standoff, (R, MODES, RAISES), ((0, 0), (1, 1), (0, 0, 0))),
    (is_plan, (R, T), (PLAN, ((0, 0),))),
    (is_gathered, (R, T, PLAN, 3), (gathered(T, PLAN, 3),)),
    (are_courses, (R,), (COURSES, straightened(COURSES))),
    (is_run, (R, COURSES), ((0, 1), (0, 0, 1, 1))),
)


def listed(value):
    """The value with lists in the place of its tuples, at every depth."""
    return [listed(part) for part in value] if type(value) is tuple else value


def shown(value):
    """What tells apart values of all kinds, True from 1 and lists from tuples, too."""
    if type(value) in (tuple, list):
        return type(value).__name__, tuple(shown(part) for part in value)
    if type(value) is dict:
        return "dict", tuple((shown(key), shown(part)) for key, part in value.items())
    return type(value).__name__, repr(value)


def is_plain(value):
    """Whether the value is made of what functions return, with tuples at every depth."""
    if type(value) is tuple:
        return all(is_plain(part) for part in value)
    return value is None or type(value) in (int, str, bool)


def all_calls():
    """Calls of every function of these sections, each a function and its arguments."""
    calls = [(kinds, (R,)), (tree_error, (T,)), (tree_error, ((None, 1),)), (rules_error, (R,))]
    for rules, tree, draw in tree_cases(1001, 72):
        one, other = drawn_mode(draw, rules[0]), drawn_mode(draw, rules[0])
        thing, most = draw.randrange(len(tree)), draw.randint(1, 12)
        holds = draw.choice((fair_holds(draw, rules, tree, 12), drawn_holds(draw, tree, rules[0])))
        plan, with_plan = drawn_plan(draw, tree, rules[0]), drawn_plan(draw, tree, rules[0], 4)
        calls += [
            (around, (tree, thing)), (are_holds, (rules, tree, holds)), (fault, (rules, tree, holds)),
            (may, (tree, holds, draw.randrange(4), thing)), (clash, (rules, tree, holds)), (meeting, (rules, one, other)),
            (is_meeting, (rules, one, other, meeting(rules, one, other))), (is_plan, (rules, tree, plan)),
            (least_holds, (tree, plan)), (go_beside, (rules, tree, plan, with_plan)), (meet, (rules, tree, plan, with_plan)),
            (gathered, (tree, plan, most)), (spare, (tree, plan, most)),
            (is_gathered, (rules, tree, plan, most, gathered(tree, plan, most))), (full, (rules, one)),
            (alike, (rules, one, other)),
        ]
    for rules, modes, raises, draw in raise_cases(1002, 72, 6):
        right = table(rules, modes)
        calls += [
            (table, (rules, modes)), (table_error, (rules, modes, right[:-1])), (table_error, (rules, modes, right)),
            (serves, (rules, modes, modes)), (fewest, (rules, modes)), (lost, (rules, modes, (0,) * len(modes))),
            (groups, (rules, modes, 2)), (ups, (modes, 0, modes[-1])), (unjoined, (modes,)), (are_raises, (modes, raises)),
            (standoff, (rules, modes, raises)), (is_standoff, (rules, modes, raises, standoff(rules, modes, raises))),
            (mode_text, (modes[0],)), (rules_text, (rules,)), (read_mode, (rules, mode_text(modes[0]))),
            (read_rules, (rules_text(rules),)),
        ]
    for rules, courses, draw in tangled_cases(1004, 36, 3, 4):
        run = stuck(rules, courses) or ()
        tree = drawn_tree(draw, draw.randint(1, 12))
        calls += [
            (are_courses, (rules, courses)), (is_run, (rules, courses, run)), (is_run, (rules, courses, run + (0, 0))),
            (waits, (rules, courses, run)), (stuck, (rules, courses)), (is_straight, (courses,)), (straightened, (courses,)),
            (tree_text, (tree,)), (read_tree, (tree_text(tree),)),
        ]
    return calls


class AnyValue(unittest.TestCase):

    def test_values_that_are_as_they_must_be(self):
        for function, ahead, values in ASKED:
            told = None if function.__name__.endswith("_error") else True
            for value in values:
                self.assertIs(told, function(*ahead, value), (function.__name__, value))

    def test_lists_do_not_do_for_tuples(self):
        words = {rules_error: "rules", tree_error: "tree", table_error: ("table",)}
        for function, ahead, values in ASKED:
            for value in values:
                for other in (listed(value), list(value)):
                    self.assertEqual(words.get(function, False), function(*ahead, other), (function.__name__, other))

    def test_values_of_all_kinds_raise_nothing_and_stay_as_they_are(self):
        odd = odd_values() + [
            nested(12, lambda value: (value, [value])), ((),) * 10000, (((),),) * 3000, ((0, 0, S),) * 2000, (S,) * 1600,
            ((0, S),) * 1400, [[0, 0, [[0], [0]]]], {"tree": T}, (T, [R]), (R, T), ((None,), ()), ((None, 0), [S]),
        ]
        for function, ahead, _ in ASKED:
            for value in odd:
                before = shown(value)
                found = function(*ahead, value)
                self.assertEqual(before, shown(value), function.__name__)
                self.assertTrue(is_plain(found), function.__name__)
                if function.__name__.startswith(("is_", "are_", "serves")):
                    self.assertIs(False, found, (function.__name__, value))
                else:
                    self.assertIsNotNone(found, (function.__name__, value))

    def test_objects_within_values(self):
        for function, ahead, values in ASKED:
            for value in values:
                for thing in package_objects():
                    for other in (thing, (thing,), value + (thing,), (thing,) + value[1:], (value, thing), {0: thing},
                                  [thing]):
                        found = function(*ahead, other)
                        self.assertIn(found, (False, "rules", "acts", "beside", "tree", ("table",)) + tuple(range(12)))

    def test_values_that_can_be_changed_stay_as_they_are(self):
        for function, ahead, values in ASKED:
            for value in values:
                for other in (listed(value), list(value), (list(value),), {0: listed(value)}, (value, listed(value))):
                    before = copy.deepcopy(other)
                    function(*ahead, other)
                    self.assertEqual(shown(before), shown(other), function.__name__)


class AnyValueOfMethods(unittest.TestCase):
    """What accepts any value and raises errors that tell of it: Yard, Desk and the readers of texts."""

    def calls(self, value):
        """Calls with the value at each argument, and what they raise; nothing is raised by the last ones."""
        yard, desk = held_yard(), Desk(held_yard())
        return (
            (Yard, (value, T), BadYard), (Yard, (R, value), BadYard), (Yard, (value, value), BadYard),
            (yard.ask, (value, 0, 0), NoHolder), (yard.ask, (0, value, 0), NoThing), (yard.ask, (0, 0, value), NoAct),
            (yard.take, (value, 0, S), NoHolder), (yard.take, (0, value, S), NoThing),
            (yard.take, (0, 0, value), BadMode), (yard.leave, (value,), NoHolder), (yard.may, (value, 0), NoHolder),
            (yard.may, (0, value), NoThing), (yard.could, (value, 0, 0), NoHolder),
            (yard.could, (0, value, 0), NoThing), (yard.could, (0, 0, value), NoAct),
            (lambda thing: yard[thing], (value,), NoThing), (read_mode, (R, value), BadText),
            (read_rules, (value,), BadText), (read_tree, (value,), BadText), (desk.say, (value,), None),
            (lambda other: (yard == other, yard != other), (value,), None),
        )

    def check(self, value):
        before = shown(value)
        for function, given, error in self.calls(value):
            if error is None:
                function(*given)
            else:
                with self.assertRaises(error) as caught:
                    function(*given)
                self.assertIs(error, type(caught.exception))
                fields = [getattr(caught.exception, name) for name in FIELDS[error.__name__]]
                if error in (NoHolder, NoThing, NoAct, BadMode):
                    self.assertIs(value, fields[0])
                else:
                    self.assertTrue(is_plain(tuple(fields)))
            self.assertEqual(before, shown(value))

    def test_values_of_all_kinds_stay_as_they_are(self):
        for value in odd_values() + [listed(R), listed(T), listed(S), [S], {0: S}, {"mode": [S]}, [[0]], ([0], [0]),
                                     {}, "0/1"]:
            self.check(value)

    def test_values_that_were_refused_can_be_changed_by_their_owner(self):
        rows = [[0], [0]]
        yard = held_yard()
        with self.assertRaises(BadMode) as caught:
            yard.take(0, 0, rows)
        rows.append([1])
        self.assertIs(rows, caught.exception.mode)
        self.assertEqual(held_yard(), yard)

    def test_a_function_may_be_of_any_kind_with_one_argument(self):
        class Counting:
            def __init__(self):
                self.seen = []

            def __call__(self, yard):
                self.seen.append(yard.version)
                return self

            def method(self, yard):
                return self(yard)

        counting = Counting()
        for function in (counting, counting.method, lambda yard: counting(yard)):
            self.assertIs(counting, held_yard().tried(function))
        self.assertEqual([2, 2, 2], counting.seen)


class Calls(unittest.TestCase):

    def test_what_is_returned_is_made_of_tuples(self):
        for function, told in all_calls():
            found = function(*told)
            self.assertTrue(is_plain(found), (function.__name__, told, found))

    def test_what_tells_whether_returns_true_or_false(self):
        asked = {is_mode, are_holds, is_meeting, alike, serves, are_raises, is_standoff, is_plan, go_beside, is_gathered,
                 are_courses, is_run, is_straight}
        for function, told in all_calls():
            self.assertIs(function in asked, type(function(*told)) is bool, function.__name__)

    def test_arguments_stay_as_they_are(self):
        for function, told in all_calls():
            before = shown(told)
            function(*told)
            self.assertEqual(before, shown(told), function.__name__)

    def test_equal_calls_return_equal_results_whatever_was_called_in_between(self):
        calls = all_calls()
        first = [shown(function(*told)) for function, told in calls]
        draw = random.Random(1003)
        for _ in range(2):
            for k in draw.sample(range(len(calls)), len(calls)):
                function, told = calls[k]
                self.assertEqual(first[k], shown(function(*copy.deepcopy(told))), function.__name__)


if __name__ == "__main__":
    unittest.main()
