"""Promise [2] (a), (b), (c), (d) and (g), and what else follows from the words of several sections."""

import itertools
import random
import unittest

from holdmodes.holds import are_holds, clash, fault, is_meeting, may, meeting, tree_error
from holdmodes.modes import covers, goes, is_mode
from holdmodes.plans import gathered, go_beside, is_gathered, is_plan, least_holds, meet, spare
from holdmodes.raising import are_raises, is_standoff, standoff
from holdmodes.tables import alike, fewest, full, groups, kinds, lost, serves, table, table_error
from tests.drawn import fair_holds, raise_cases, ring, tree_cases
from tests.samples import (
    all_modes, all_rules, all_trees, drawn_holds, drawn_mode, drawn_modes, drawn_plan, drawn_rules, may_beside, subsets,
)
from tests.told import (
    told_around, told_clash, told_fault, told_is_gathered, told_is_meeting, told_is_standoff, told_within,
)


class FairHolds(unittest.TestCase):

    def test_all_fair_holds_of_two_holders_on_two_things_have_no_clash(self):
        tree, places, fair = (None, 0), list(itertools.product(range(2), range(2))), 0
        for rules in all_rules(2)[::3]:
            for held in itertools.product([None] + all_modes(2), repeat=4):
                holds = tuple(place + (mode,) for place, mode in zip(places, held) if mode is not None)
                if fault(rules, tree, holds) is None:
                    fair += 1
                    self.assertIsNone(clash(rules, tree, holds), (rules, holds))
        self.assertGreater(fair, 1000)

    def test_all_fair_holds_of_one_act_on_three_things_have_no_clash(self):
        places = list(itertools.product(range(2), range(3)))
        for rules in all_rules(1):
            for tree in all_trees(3):
                for held in itertools.product([None] + all_modes(1), repeat=6):
                    holds = tuple(place + (mode,) for place, mode in zip(places, held) if mode is not None)
                    if fault(rules, tree, holds) is None:
                        self.assertIsNone(clash(rules, tree, holds), (rules, tree, holds))

    def test_drawn_fair_holds_have_no_clash(self):
        for rules, tree, draw in tree_cases(901, 240):
            holds = fair_holds(draw, rules, tree, 30)
            self.assertIsNone(fault(rules, tree, holds))
            self.assertIsNone(clash(rules, tree, holds))
            for thing in range(len(tree)):
                lots = [may(tree, holds, holder, thing) for holder in range(4)]
                for one, other in itertools.combinations(lots, 2):
                    for act, with_act in itertools.product(one, other):
                        self.assertTrue(may_beside(rules, act, with_act))

    def test_what_clashes_is_not_fair(self):
        for rules, tree, draw in tree_cases(902, 240):
            holds = drawn_holds(draw, tree, rules[0])
            if clash(rules, tree, holds) is not None:
                self.assertIsNotNone(fault(rules, tree, holds))

    def test_holds_with_those_of_one_holder_left_out_stay_fair(self):
        for rules, tree, draw in tree_cases(903, 240):
            holds = fair_holds(draw, rules, tree, 30)
            for chosen in subsets(range(4)):
                left = tuple(hold for hold in holds if hold[0] in chosen)
                self.assertIsNone(fault(rules, tree, left), (rules, tree, holds, chosen))

    def test_the_least_holds_of_plans_that_go_are_fair(self):
        for rules, tree, draw in tree_cases(904, 360):
            plans = [drawn_plan(draw, tree, rules[0], 3) for _ in range(2)]
            holds = tuple((holder,) + pair for holder, plan in enumerate(plans) for pair in least_holds(tree, plan))
            self.assertTrue(are_holds(rules, tree, holds))
            self.assertIs(go_beside(rules, tree, *plans), fault(rules, tree, holds) is None)


class Meetings(unittest.TestCase):

    def test_two_modes_have_one_just_if_they_do_not_go(self):
        for acts in (1, 2, 3):
            modes = all_modes(acts)
            for rules in all_rules(acts)[::acts ** 2]:
                for one, other in itertools.product(modes, repeat=2):
                    found = meeting(rules, one, other)
                    self.assertIs(goes(rules, one, other), found is None, (rules, one, other))
                    self.assertIs(found is not None, is_meeting(rules, one, other, found))

    def test_drawn_modes(self):
        draw = random.Random(911)
        for rules in drawn_rules(912, 1200):
            one, other = drawn_mode(draw, rules[0]), drawn_mode(draw, rules[0])
            found = meeting(rules, one, other)
            self.assertIs(goes(rules, one, other), found is None)
            if found is not None:
                tree, holds = found
                self.assertIsNone(tree_error(tree))
                self.assertTrue(are_holds(rules, tree, holds))
                self.assertEqual(("go", 0, 0, 1), fault(rules, tree, holds))
                self.assertIsNotNone(clash(rules, tree, holds))


class Modes(unittest.TestCase):

    def test_full_goes_with_just_the_same_and_covers_what_does(self):
        for rules in all_rules(2):
            for mode, other in itertools.product(all_modes(2), repeat=2):
                self.assertIs(goes(rules, mode, other), goes(rules, full(rules, mode), other))
                if alike(rules, mode, other):
                    self.assertTrue(covers(full(rules, mode), other))
                    self.assertEqual(full(rules, mode), full(rules, other))

    def test_full_of_full_is_full(self):
        draw = random.Random(921)
        for rules in drawn_rules(922, 600):
            mode = drawn_mode(draw, rules[0])
            found = full(rules, mode)
            self.assertEqual(found, full(rules, found))
            self.assertTrue(is_mode(rules, found) and covers(found, mode) and alike(rules, found, mode))
            other = drawn_mode(draw, rules[0])
            self.assertIs(goes(rules, mode, other), goes(rules, found, other))

    def test_kinds_are_what_full_leaves(self):
        for rules in drawn_rules(923, 60):
            told = set(kinds(rules))
            for mode in all_modes(rules[0]):
                self.assertIs(mode in told, full(rules, mode) == mode)

    def test_the_modes_that_full_tells_serve_in_the_same_table(self):
        draw = random.Random(924)
        for rules in drawn_rules(925, 240):
            modes = drawn_modes(draw, rules[0], 12)
            wide = tuple(full(rules, mode) for mode in modes)
            self.assertEqual(table(rules, modes), table(rules, wide))
            self.assertIsNone(table_error(rules, modes, table(rules, wide)))
            self.assertTrue(serves(rules, modes, fewest(rules, modes)))
            self.assertTrue(serves(rules, modes, wide))

    def test_modes_that_are_alike_are_put_together_for_nothing(self):
        draw = random.Random(926)
        for rules in drawn_rules(927, 120):
            modes = drawn_modes(draw, rules[0], 6)
            most = len(fewest(rules, modes))
            self.assertEqual(0, lost(rules, modes, groups(rules, modes, most)))


class Plans(unittest.TestCase):

    def test_two_go_just_if_no_act_is_against_one_on_the_same_thing_or_around_or_within(self):
        for rules, tree, draw in tree_cases(931, 720):
            plan, other = drawn_plan(draw, tree, rules[0], 6), drawn_plan(draw, tree, rules[0], 6)
            against = [
                (thing, place) for (thing, act), (place, with_act) in itertools.product(plan, other)
                if not may_beside(rules, act, with_act)
                and (told_within(tree, thing, place) or told_within(tree, place, thing))
            ]
            self.assertIs(not against, go_beside(rules, tree, plan, other), (rules, tree, plan, other))
            self.assertIs(not against, meet(rules, tree, plan, other) is None, (rules, tree, plan, other))

    def test_going_is_the_same_both_ways(self):
        for rules, tree, draw in tree_cases(932, 240):
            plan, other = drawn_plan(draw, tree, rules[0], 6), drawn_plan(draw, tree, rules[0], 6)
            self.assertIs(go_beside(rules, tree, plan, other), go_beside(rules, tree, other, plan))
            self.assertIs(meet(rules, tree, plan, other) is None, meet(rules, tree, other, plan) is None)

    def test_the_least_holds_let_a_holder_do_what_is_planned(self):
        for rules, tree, draw in tree_cases(933, 240):
            plan = drawn_plan(draw, tree, rules[0])
            holds = tuple((2,) + pair for pair in least_holds(tree, plan))
            self.assertIsNone(fault(rules, tree, holds))
            for thing in range(len(tree)):
                told = {act for place, act in plan if place in told_around(tree, thing)}
                self.assertEqual(tuple(sorted(told)), may(tree, holds, 2, thing))

    def test_more_holds_need_no_more_rights(self):
        for rules, tree, draw in tree_cases(934, 120):
            plan = drawn_plan(draw, tree, rules[0])
            counts = [spare(tree, plan, most) for most in range(1, 13)]
            self.assertEqual(sorted(counts, reverse=True), counts)
            self.assertEqual(0, counts[-1])

    def test_what_is_gathered_goes_with_no_more_than_the_least_holds(self):
        for rules, tree, draw in tree_cases(935, 240):
            plan, other = drawn_plan(draw, tree, rules[0], 4), drawn_plan(draw, tree, rules[0], 4)
            holds = [(0,) + pair for pair in gathered(tree, plan, 2)] + [(1,) + pair for pair in least_holds(tree, other)]
            if fault(rules, tree, tuple(holds)) is None:
                self.assertTrue(go_beside(rules, tree, plan, other))


class Standoffs(unittest.TestCase):

    def test_none_means_that_no_holders_wait_in_a_ring(self):
        found = 0
        for rules, modes, raises, _ in raise_cases(941, 300, 8, 3):
            if standoff(rules, modes, raises) is None:
                found += 1
                for many in range(2, 6):
                    for row in itertools.product(range(len(raises)), repeat=many):
                        self.assertFalse(is_standoff(rules, modes, raises, row), (rules, modes, raises, row))
                        self.assertFalse(told_is_standoff(rules, modes, raises, row))
        self.assertGreater(found, 20)

    def test_a_rotated_standoff_is_one(self):
        for rules, modes, raises, _ in raise_cases(942, 200):
            row = standoff(rules, modes, raises)
            for turn in range(len(row or ())):
                self.assertTrue(is_standoff(rules, modes, raises, row[turn:] + row[:turn]))
        draw = random.Random(943)
        for many in range(2, 7):
            rules, modes, raises, row = ring(draw, many)
            for turn in range(many):
                self.assertTrue(is_standoff(rules, modes, raises, row[turn:] + row[:turn]))

    def test_a_standoff_told_is_one_and_begins_with_its_least_raise(self):
        for rules, modes, raises, _ in raise_cases(944, 300):
            self.assertTrue(are_raises(modes, raises))
            row = standoff(rules, modes, raises)
            if row is not None:
                self.assertTrue(is_standoff(rules, modes, raises, row))
                self.assertEqual(min(row), row[0])


class WhoeverMadeIt(unittest.TestCase):
    """What is_meeting, is_standoff, is_plan and is_gathered say of what this package did not make."""

    def test_drawn_meetings(self):
        found = 0
        draw = random.Random(951)
        for rules in drawn_rules(952, 1500):
            tree = draw.choice(((None,), (None, 0)))
            holds = drawn_holds(draw, tree, rules[0], 2)
            modes = {hold[:2]: hold[2] for hold in holds}
            one, other = [modes.get((holder, 0), drawn_mode(draw, rules[0])) for holder in (0, 1)]
            told = told_is_meeting(rules, one, other, (tree, holds))
            self.assertIs(told, is_meeting(rules, one, other, (tree, holds)))
            if told:
                found += 1
                self.assertFalse(goes(rules, one, other))
                self.assertIsNotNone(told_clash(rules, tree, holds))
                self.assertEqual(("go", 0, 0, 1), told_fault(rules, tree, holds))
        self.assertGreater(found, 30)

    def test_drawn_gatherings(self):
        found = 0
        for rules, tree, draw in tree_cases(953, 480):
            plan = drawn_plan(draw, tree[:4], rules[0], 3)
            holds = fair_holds(draw, rules, tree[:4], 6)
            value = tuple(hold[1:] for hold in holds if hold[0] == 0)
            value = draw.choice((value, least_holds(tree[:4], plan), gathered(tree[:4], plan, 2)))
            for most in (1, 2, 4):
                told = told_is_gathered(rules, tree[:4], plan, most, value)
                self.assertTrue(is_plan(rules, tree[:4], plan))
                self.assertIs(told, is_gathered(rules, tree[:4], plan, most, value))
                found += told
        self.assertGreater(found, 100)


if __name__ == "__main__":
    unittest.main()
