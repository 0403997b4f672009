"""Promise [2] (e), (f) and (g), and what else follows from the words about yards, desks and courses."""

import itertools
import random
import unittest

from holdmodes.courses import are_courses, is_run, is_straight, straightened, stuck, waits
from holdmodes.desks import Desk
from holdmodes.holds import are_holds, clash, fault, may
from holdmodes.modes import covers, goes, joined
from holdmodes.plans import least_holds
from holdmodes.texts import mode_text, read_mode, read_rules, read_tree, rules_text, tree_text
from holdmodes.yards import Yard
from tests.drawn import course_cases, tangled_cases, tree_cases
from tests.said import drawn_call, small_mode
from tests.samples import (
    all_modes, all_rules, all_trees, drawn_mode, drawn_plan, drawn_rules, drawn_trees, may_beside,
)
from tests.told import told_clash, told_fault, told_is_run, told_is_straight, told_may
from tests.told_yards import outcome


class Fair(unittest.TestCase):

    def check_fair(self, yard):
        self.assertTrue(are_holds(yard.rules, yard.tree, yard.holds))
        self.assertIsNone(fault(yard.rules, yard.tree, yard.holds))
        self.assertIsNone(told_fault(yard.rules, yard.tree, yard.holds))
        self.assertIsNone(clash(yard.rules, yard.tree, yard.holds))

    def test_at_each_time(self):
        for rules, tree, draw in tree_cases(1801, 240):
            yard = Yard(rules, tree)
            self.check_fair(yard)
            for _ in range(20):
                name, given = drawn_call(draw, rules, tree)
                outcome(getattr(yard, name), *given)
                self.check_fair(yard)
            self.assertIsNone(told_clash(rules, tree, yard.holds))

    def test_within_tried_and_behind_it(self):
        for rules, tree, draw in tree_cases(1802, 120):
            yard = Yard(rules, tree)

            def work(tried):
                for _ in range(6):
                    name, given = drawn_call(draw, rules, tree)
                    outcome(getattr(tried, name), *given)
                    self.check_fair(tried)

            for _ in range(4):
                name, given = drawn_call(draw, rules, tree)
                outcome(getattr(yard, name), *given)
                yard.tried(work)
                self.check_fair(yard)

    def test_a_desk_says_so(self):
        for rules, tree, draw in tree_cases(1803, 120):
            yard = Yard(rules, tree)
            desk = Desk(yard)
            for _ in range(10):
                name, given = drawn_call(draw, rules, tree)
                outcome(getattr(yard, name), *given)
                self.assertEqual("yes", desk.say("fair"))

    def test_no_two_holders_may_do_what_may_not_be_done_side_by_side(self):
        for rules, tree, draw in tree_cases(1804, 120):
            yard = Yard(rules, tree)
            for _ in range(20):
                name, given = drawn_call(draw, rules, tree)
                outcome(getattr(yard, name), *given)
            for thing in range(len(tree)):
                lots = [yard.may(holder, thing) for holder in range(4)]
                for one, other in itertools.combinations(lots, 2):
                    for act, with_act in itertools.product(one, other):
                        self.assertTrue(may_beside(rules, act, with_act))

    def test_all_short_rows_of_deeds_in_all_small_yards(self):
        for rules in all_rules(1) + all_rules(2)[::3]:
            for tree in all_trees(1) + all_trees(2):
                calls = [("take", (holder, thing, mode)) for holder in (0, 1) for thing in range(len(tree))
                         for mode in all_modes(rules[0])]
                for row in itertools.product(calls, repeat=2):
                    yard = Yard(rules, tree)
                    for name, given in row:
                        outcome(getattr(yard, name), *given)
                    self.check_fair(yard)


class Granted(unittest.TestCase):

    def test_who_asked_may_do_the_act_on_the_thing_and_within(self):
        for rules, tree, draw in tree_cases(1811, 120):
            yard = Yard(rules, tree)
            for _ in range(12):
                holder, thing, act = draw.randrange(4), draw.randrange(len(tree)), draw.randrange(rules[0])
                if outcome(yard.ask, holder, thing, act)[0] == "returns":
                    for place in range(len(tree)):
                        if told_may(tree, ((0, thing, ((0,), (0,))),), 0, place):
                            self.assertIn(act, yard.may(holder, place))

    def test_may_as_may_tells_of_the_holds(self):
        for rules, tree, draw in tree_cases(1812, 120):
            yard = Yard(rules, tree)
            for _ in range(12):
                name, given = drawn_call(draw, rules, tree)
                outcome(getattr(yard, name), *given)
            for holder, thing in itertools.product(range(4), range(len(tree))):
                self.assertEqual(may(tree, yard.holds, holder, thing), yard.may(holder, thing))
                self.assertEqual(told_may(tree, yard.holds, holder, thing), yard.may(holder, thing))

    def test_a_holder_alone_is_never_barred(self):
        for rules, tree, draw in tree_cases(1813, 120):
            yard = Yard(rules, tree)
            for version in range(1, 20):
                thing = draw.randrange(len(tree))
                self.assertEqual(version, yard.take(2, thing, small_mode(draw, rules[0])))
                self.assertIsNone(yard.could(2, thing, draw.randrange(rules[0])))
            self.assertEqual(20, yard.leave(2))

    def test_a_holder_may_have_the_least_holds_of_a_plan_by_itself(self):
        for rules, tree, draw in tree_cases(1814, 240):
            plan = drawn_plan(draw, tree, rules[0])
            held = least_holds(tree, plan)
            holds = tuple((3,) + pair for pair in held)
            self.assertTrue(are_holds(rules, tree, holds))
            self.assertIsNone(fault(rules, tree, holds))
            yard = Yard(rules, tree)
            for thing, mode in held:
                yard.take(3, thing, mode)
            self.assertEqual(holds, yard.holds)
            asked = Yard(rules, tree)
            for thing, act in plan:
                asked.ask(3, thing, act)
            modes = {thing: mode for _, thing, mode in asked.holds}
            self.assertTrue(all(covers(modes[thing], mode) for thing, mode in held))
            for thing in range(len(tree)):
                self.assertEqual(asked.may(3, thing), yard.may(3, thing))

    def test_taking_twice_is_taking_once_and_so_is_taking_what_is_joined(self):
        for rules, tree, draw in tree_cases(1815, 120):
            one, other, thing = drawn_mode(draw, rules[0]), drawn_mode(draw, rules[0]), draw.randrange(len(tree))
            yards = [Yard(rules, tree) for _ in range(3)]
            for yard, modes in zip(yards, ((one, other, one), (other, one), (joined(one, other),))):
                for mode in modes:
                    yard.take(1, thing, mode)
            self.assertTrue(yards[0] == yards[1] == yards[2])

    def test_two_may_take_a_thing_just_if_their_modes_go(self):
        for rules in all_rules(2):
            for one, other in itertools.product(all_modes(2), repeat=2):
                yard = Yard(rules, (None,))
                yard.take(0, 0, one)
                found = outcome(yard.take, 1, 0, other)
                self.assertEqual(("returns", 2) if goes(rules, one, other) else ("raises", "Barred", 0, 0), found)


class Courses(unittest.TestCase):

    def straight_courses(self, draw, acts, holders=4):
        rows = [draw.sample(range(12), draw.randint(1, 8)) for _ in range(draw.randint(1, holders))]
        return tuple(tuple((thing, small_mode(draw, acts)) for thing in sorted(row)) for row in rows)

    def test_straight_ones_are_stuck_behind_no_run(self):
        draw = random.Random(1821)
        for rules in drawn_rules(1822, 90):
            courses = self.straight_courses(draw, rules[0])
            self.assertTrue(are_courses(rules, courses) and is_straight(courses) and told_is_straight(courses))
            self.assertIsNone(stuck(rules, courses), (rules, courses))

    def test_all_small_straight_ones(self):
        steps = [((thing, mode),) for thing in (0, 1) for mode in all_modes(1)]
        rows = steps + [one + other for one, other in itertools.product(steps[:3], steps[3:])]
        for rules in all_rules(1):
            for courses in itertools.product(rows, repeat=3):
                self.assertIsNone(stuck(rules, courses))

    def test_straightened_ones_are_stuck_behind_no_run(self):
        found = 0
        for rules, courses, _ in tangled_cases(1823, 180) + course_cases(1824, 60):
            rows = straightened(courses)
            self.assertTrue(are_courses(rules, rows) and is_straight(rows))
            self.assertIsNone(stuck(rules, rows))
            found += stuck(rules, courses) is not None
        self.assertGreater(found, 60)

    def test_holders_alone_are_never_stuck(self):
        for rules, courses, _ in tangled_cases(1825, 120):
            for course in courses:
                self.assertIsNone(stuck(rules, (course,)))
                self.assertTrue(is_run(rules, (course,), (0,) * len(course)))

    def test_behind_a_stuck_run_there_is_no_step(self):
        found = 0
        for rules, courses, _ in tangled_cases(1826, 180):
            run = stuck(rules, courses)
            if run is not None:
                found += 1
                self.assertTrue(is_run(rules, courses, run))
                waiting = {holder for holder, _ in waits(rules, courses, run)}
                self.assertEqual({k for k in range(len(courses)) if run.count(k) < len(courses[k])}, waiting)
                self.assertFalse([k for k in range(len(courses)) if is_run(rules, courses, run + (k,))])
        self.assertGreater(found, 60)

    def test_without_a_stuck_run_all_can_be_done(self):
        for rules, courses, draw in tangled_cases(1827, 60):
            if stuck(rules, courses) is None:
                run = ()
                while len(run) < sum(len(course) for course in courses):
                    able = [k for k in range(len(courses)) if is_run(rules, courses, run + (k,))]
                    run += (draw.choice(able),)
                self.assertEqual((), waits(rules, courses, run))

    def test_a_run_is_one_whoever_made_it(self):
        found = []
        for rules, courses, draw in tangled_cases(1828, 240):
            value = tuple(draw.choices(range(len(courses)), k=draw.randint(1, 8)))
            told = told_is_run(rules, courses, value)
            self.assertIs(told, is_run(rules, courses, value))
            found.append(told)
        self.assertGreater(min(found.count(True), found.count(False)), 40)


class Texts(unittest.TestCase):

    def test_unlike_things_have_unlike_texts(self):
        for function, values in (
            (mode_text, all_modes(6)), (rules_text, all_rules(1) + all_rules(2) + all_rules(3)),
            (tree_text, [tree for many in range(1, 7) for tree in all_trees(many)]),
        ):
            self.assertEqual(len(set(values)), len({function(value) for value in values}))

    def test_what_is_written_is_read(self):
        draw = random.Random(1831)
        for rules, tree in zip(drawn_rules(1832, 240), drawn_trees(1833, 240)):
            mode = drawn_mode(draw, rules[0])
            texts = mode_text(mode), rules_text(rules), tree_text(tree)
            self.assertEqual(mode, read_mode(rules, texts[0]))
            self.assertEqual((rules, tree), (read_rules(texts[1]), read_tree(texts[2])))
            self.assertEqual(Yard(rules, tree), Yard(read_rules(texts[1]), read_tree(texts[2])))


if __name__ == "__main__":
    unittest.main()
