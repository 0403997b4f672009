"""Promise [23]: callers may go somewhat beyond the limits, and nothing is raised for it."""

import random
import unittest

from holdmodes.courses import are_courses, is_run, is_straight, straightened, stuck, waits
from holdmodes.desks import Desk
from holdmodes.holds import are_holds, around, clash, fault, may, tree_error
from holdmodes.modes import is_mode
from holdmodes.plans import gathered, go_beside, is_gathered, is_plan, least_holds, meet, spare
from holdmodes.raising import are_raises, is_standoff, standoff, unjoined, ups
from holdmodes.rules import against, rules_error
from holdmodes.tables import fewest, groups, lost, serves, table, table_error
from holdmodes.texts import mode_text, read_mode, read_rules, read_tree, rules_text, tree_text
from holdmodes.yards import Yard
from tests.drawn import drawn_courses, raise_cases
from tests.samples import R, S, T, X, all_modes, drawn_mode, drawn_plan, drawn_rules, drawn_tree, held_yard, nested
from tests.test_values import ASKED
from tests.told import (
    told_around, told_clash, told_go_beside, told_groups, told_is_gathering, told_is_run, told_least_holds, told_may,
    told_meet, told_standoff, told_straightened, told_stuck_by_states, told_table, told_unjoined, told_ups, told_waits,
)
from tests.told_yards import outcome, told_tree_text

NONE = ((), ())


class Longer(unittest.TestCase):

    def test_more_modes(self):
        draw = random.Random(1901)
        for rules in drawn_rules(1902, 36)[3:]:
            modes = tuple(draw.sample(all_modes(max(3, rules[0])), 15))
            rules = (max(3, rules[0]), rules[1])
            self.assertEqual(told_table(rules, modes), table(rules, modes))
            self.assertIsNone(table_error(rules, modes, table(rules, modes)))
            self.assertTrue(serves(rules, modes, modes) and serves(rules, modes, fewest(rules, modes)))
            self.assertEqual(told_unjoined(modes), unjoined(modes))
            self.assertEqual(told_ups(modes, 14, modes[0]), ups(modes, 14, modes[0]))
            self.assertEqual(0, lost(rules, modes, tuple(range(15))))

    def test_more_modes_grouped(self):
        modes = tuple(all_modes(3)[::3][:7])
        self.assertEqual(told_groups(R, modes, 3), groups(R, modes, 3))
        self.assertEqual(0, lost(R, modes, groups(R, modes, 7)))
        self.assertEqual((0, 1), groups(R, (S, X), 9))

    def test_more_raises(self):
        for rules, modes, raises, _ in raise_cases(1903, 60, 12, 10):
            found = standoff(rules, modes, raises)
            self.assertEqual(told_standoff(rules, modes, raises, 2), found if found and len(found) == 2 else None)
            if found:
                self.assertTrue(is_standoff(rules, modes, raises, found))
            self.assertIs(len(raises) <= 8, are_raises(modes, raises))

    def test_longer_plans(self):
        draw = random.Random(1904)
        for _ in range(40):
            tree = drawn_tree(draw, 12)
            plan, other = drawn_plan(draw, tree, 6, 30), drawn_plan(draw, tree, 6, 30)
            rules = (6, ((0, 1), (2, 2), (3, 5)))
            self.assertIs(len(plan) <= 20, is_plan(rules, tree, plan))
            self.assertEqual(told_least_holds(tree, plan), least_holds(tree, plan))
            self.assertEqual(told_meet(rules, tree, plan, other), meet(rules, tree, plan, other))
            self.assertIs(told_go_beside(rules, tree, plan, other), go_beside(rules, tree, plan, other))
            for most in (12, 13, 20):
                value = gathered(tree, plan, most)
                self.assertTrue(told_is_gathering(rules, tree, plan, value))
                self.assertTrue(is_gathered(rules, tree, plan, most, value))
                self.assertEqual(0, spare(tree, plan, most))

    def test_larger_trees_and_more_holders(self):
        draw = random.Random(1905)
        for many in (13, 14, 16):
            tree = drawn_tree(draw, many)
            holds = tuple((holder, thing, drawn_mode(draw, 3)) for holder in range(6) for thing in range(many))
            self.assertEqual(("tree", False), (tree_error(tree), are_holds(R, tree, holds)))
            for thing in range(many):
                self.assertEqual(told_around(tree, thing), around(tree, thing))
                for holder in range(7):
                    self.assertEqual(told_may(tree, holds, holder, thing), may(tree, holds, holder, thing))
            few = tuple(hold for hold in holds if hold[0] < 4)
            self.assertEqual(told_clash(R, tree, few), clash(R, tree, few))
            self.assertIsNotNone(fault(R, tree, holds))
            self.assertEqual(told_tree_text(tree), tree_text(tree))
            self.assertEqual(("raises", "BadText", 12), outcome(read_tree, tree_text(tree)))

    def test_more_acts(self):
        rules = (7, ((0, 6), (6, 6)))
        self.assertEqual(("acts", (1, 2, 3, 4, 5)), (rules_error(rules), against(rules, (6,))))
        self.assertEqual((True, "6/56"), (is_mode(rules, ((6,), (5, 6))), mode_text(((6,), (5, 6)))))
        self.assertEqual(((6,), (5, 6)), read_mode(rules, "6/56"))
        self.assertEqual("7 06 66", rules_text(rules))
        self.assertEqual(("raises", "BadText", 0), outcome(read_rules, "7 06 66"))

    def test_more_courses_and_more_steps(self):
        draw = random.Random(1906)
        for k in range(12):
            acts = k % 3 + 1
            rules = (acts, ((0, 0),))
            courses = tuple(course * 2 for course in drawn_courses(draw, acts, 2, 5, 14))
            courses += drawn_courses(draw, acts, 3, 2, 14)
            self.assertEqual(told_stuck_by_states(rules, courses), stuck(rules, courses))
            run = tuple(k for k, course in enumerate(courses) for _ in course)
            self.assertTrue(is_run(rules, courses, run) and told_is_run(rules, courses, run))
            self.assertEqual(told_waits(rules, courses, run[:3]), waits(rules, courses, run[:3]))
            self.assertEqual(told_straightened(courses), straightened(courses))
            self.assertFalse(is_straight(tuple(course + course for course in courses)))
        self.assertIs(False, are_courses(R, (((0, S),),) * 5))


class Values(unittest.TestCase):

    def test_longer_strings_larger_numbers_and_deeper_values(self):
        values = ["x" * 5000, "0" * 5000, " " * 5000, "3" + " 00" * 3000, "." + " 0" * 3000, 10 ** 60, -10 ** 60, 10 ** 899,
                  nested(40, lambda value: (value,)), nested(40, lambda value: [value]), tuple(range(30000)),
                  ((0, 0),) * 30000, (S,) * 30000, "on " + "0" * 5000, "on " + "9" * 5000, ". " + "1" * 5000]
        for value in values:
            for function, ahead, _ in ASKED:
                self.assertIn(type(function(*ahead, value)), (bool, str, tuple, int))
            yard = held_yard()
            for call in ((yard.ask, (value, 0, 0)), (yard.take, (0, 0, value)), (yard.leave, (value,)), (Yard, (R, value)),
                         (read_mode, (R, value)), (read_rules, (value,)), (read_tree, (value,)), (yard.may, (0, value))):
                self.assertEqual("raises", outcome(call[0], *call[1])[0])
            self.assertEqual("what", Desk(yard).say(value))
            self.assertIs(False, yard == value)


class Deeper(unittest.TestCase):

    def test_tried_deeper_than_twenty(self):
        def work(yard, depth):
            yard.take(0, 0, NONE) if yard.version < 25 else yard.undo()
            return yard.tried(lambda tried: work(tried, depth + 1)) if depth < 40 else depth

        yard = held_yard()
        self.assertEqual(40, yard.tried(lambda tried: work(tried, 1)))
        self.assertEqual((held_yard(), 2, (0, 2)), (yard, yard.version, yard.last))

    def test_more_deeds_than_there_can_be(self):
        yard = Yard(R, T)
        found = [outcome(yard.take, 0, 0, NONE) for _ in range(60)]
        self.assertEqual([("returns", version) for version in range(1, 26)] + [("raises", "Full")] * 35, found)


if __name__ == "__main__":
    unittest.main()
