"""Promise [14]: is_plan, least_holds, go_beside and meet."""

import itertools
import random
import unittest

from holdmodes.plans import go_beside, is_plan, least_holds, meet
from tests.drawn import tree_cases
from tests.samples import R, T, all_rules, all_trees, changed, drawn_plan, drawn_tree, odd_values, subsets, with_odd_parts
from tests.told import (
    told_around, told_go_beside, told_is_mode, told_is_plan, told_lacks, told_least_holds, told_meet, told_rights,
)


def all_plans(things, acts):
    return subsets(itertools.product(range(things), range(acts)))[1:]


class IsPlan(unittest.TestCase):

    def check(self, told, rules, tree, value):
        self.assertIs(told, is_plan(rules, tree, value), (rules, tree, value))

    def check_told(self, rules, tree, value):
        self.check(told_is_plan(rules, tree, value), rules, tree, value)

    def test_the_example(self):
        self.check(False, R, T, ((1, 0), (4, 0)))

    def test_drawn_plans(self):
        for rules, tree, draw in tree_cases(701, 360):
            self.check(True, rules, tree, drawn_plan(draw, tree, rules[0]))

    def test_one_to_twenty_pairs(self):
        tree = (None,) + tuple(range(11))
        pairs = tuple(itertools.product(range(12), range(6)))
        for many in range(1, 21):
            self.check(True, (6, ()), tree, pairs[:many])
            self.check(True, (6, ()), tree, pairs[-many:])
        for many in (0, 21, 22, 72):
            self.check(False, (6, ()), tree, pairs[:many])

    def test_pairs_out_of_order_or_doubled(self):
        for rules, tree, draw in tree_cases(702, 120):
            plan = drawn_plan(draw, tree, rules[0], 19)
            for at, pair in enumerate(plan):
                self.check(False, rules, tree, plan[:at] + (pair,) + plan[at:])
                if at > 0:
                    self.check(False, rules, tree, plan[:at - 1] + (pair, plan[at - 1]) + plan[at + 1:])

    def test_things_and_acts_that_there_are_not(self):
        for many in range(1, 13):
            tree = (None,) + (0,) * (many - 1)
            for thing in range(-1, 14):
                self.check(0 <= thing < many, R, tree, ((thing, 0),))
        for acts in range(1, 7):
            for act in range(-1, 8):
                self.check(0 <= act < acts, (acts, ()), T, ((3, act),))

    def test_wrong_values(self):
        for value in (None, 0, "", "00", [], [(0, 0)], ([0, 0],), ((0, 0), [1, 0]), (0, 0), ((0,),), ((0, 0, 0),), ((),),
                      ((False, 0),), ((0, False),), ((True, True),), (("0", 0),), ((0, "0"),), ((0, None),), ((None, 0),),
                      {(0, 0): 0}, (((0, 0),),), ((0, 0), None), ((0, (0,)),)):
            self.check(False, R, T, value)

    def test_plans_with_one_part_changed(self):
        for rules, tree, draw in tree_cases(703, 60):
            for value in changed(drawn_plan(draw, tree, rules[0])):
                self.check_told(rules, tree, value)

    def test_values_of_all_kinds(self):
        for odd in odd_values():
            for value in with_odd_parts(((0, 2), (3, 1)), odd):
                self.check_told(R, T, value)


class LeastHolds(unittest.TestCase):

    def check(self, tree, plan):
        found = least_holds(tree, plan)
        self.assertEqual(told_least_holds(tree, plan), found, (tree, plan))
        self.assertIs(tuple, type(found))
        for pair in found:
            self.assertEqual((tuple, tuple), (type(pair), type(pair[1])))
            self.assertTrue(told_is_mode((6, ()), pair[1]))

    def test_the_example(self):
        told = ((0, ((), (0, 1))), (1, ((0,), (0, 1))), (3, ((1,), (1,))))
        self.assertEqual(told, least_holds(T, ((1, 0), (3, 0), (3, 1))))

    def test_all_plans_of_two_acts_for_small_trees(self):
        for many in (1, 2, 3, 4):
            for tree in all_trees(many):
                for plan in all_plans(many, 2):
                    self.check(tree, plan)

    def test_drawn_plans(self):
        for rules, tree, draw in tree_cases(711, 480):
            self.check(tree, drawn_plan(draw, tree, rules[0]))

    def test_the_largest_plans(self):
        draw = random.Random(712)
        path, star = (None,) + tuple(range(11)), (None,) + (0,) * 11
        pairs = list(itertools.product(range(12), range(6)))
        for tree in (path, star) + tuple(drawn_tree(draw, 12) for _ in range(20)):
            self.check(tree, tuple(sorted(draw.sample(pairs, 20))))

    def test_an_act_that_is_planned_around_adds_nothing(self):
        self.assertEqual(((0, ((0,), (0,))),), least_holds(T, ((0, 0), (1, 0), (2, 0), (3, 0))))
        # Two things around, of which the inner one adds nothing either.
        path = (None, 0, 1, 2)
        self.assertEqual(((0, ((), (0,))), (1, ((0,), (0,)))), least_holds(path, ((1, 0), (2, 0), (3, 0))))
        # The thing 2 stands beside the thing 1, not within it.
        told = ((0, ((), (0,))), (1, ((0,), (0,))), (2, ((0,), (0,))))
        self.assertEqual(told, least_holds(T, ((1, 0), (2, 0), (3, 0))))

    def test_they_can_be_held_and_have_all_that_is_planned(self):
        for rules, tree, draw in tree_cases(713, 240):
            plan = drawn_plan(draw, tree, rules[0])
            found = least_holds(tree, plan)
            self.assertEqual([], told_lacks(tree, [(0,) + pair for pair in found]))
            told = {(thing, act) for place, act in plan for thing in range(len(tree)) if place in told_around(tree, thing)}
            self.assertEqual(told, told_rights(tree, found))


class Meet(unittest.TestCase):

    def check(self, rules, tree, plan, other):
        told = told_meet(rules, tree, plan, other)
        self.assertEqual(told, meet(rules, tree, plan, other), (rules, tree, plan, other))
        beside = told_go_beside(rules, tree, plan, other)
        self.assertIs(beside, go_beside(rules, tree, plan, other), (rules, tree, plan, other))
        self.assertIs(beside, told is None)
        return told

    def test_the_examples(self):
        found = go_beside(R, T, ((1, 0),), ((2, 1),)), go_beside(R, T, ((1, 0),), ((3, 1),))
        self.assertEqual((True, False), found)
        self.assertEqual((3, 0, 1), meet(R, T, ((1, 0),), ((3, 1),)))

    def test_all_pairs_of_plans_of_two_acts_for_small_trees(self):
        for rules in all_rules(2):
            for tree in all_trees(1) + all_trees(2):
                for plan, other in itertools.product(all_plans(len(tree), 2), repeat=2):
                    self.check(rules, tree, plan, other)

    def test_all_pairs_of_plans_of_one_act(self):
        for rules in all_rules(1):
            for tree in all_trees(3) + all_trees(4):
                for plan, other in itertools.product(all_plans(len(tree), 1), repeat=2):
                    self.check(rules, tree, plan, other)

    def test_drawn_plans(self):
        found = set()
        for rules, tree, draw in tree_cases(721, 720):
            plan, other = drawn_plan(draw, tree, rules[0]), drawn_plan(draw, tree, rules[0])
            found.add(self.check(rules, tree, plan, other))
            self.check(rules, tree, plan, plan)
        self.assertGreater(len(found), 50)

    def test_short_plans(self):
        for rules, tree, draw in tree_cases(722, 720):
            self.check(rules, tree, drawn_plan(draw, tree, rules[0], 2), drawn_plan(draw, tree, rules[0], 2))

    def test_the_acts_are_told_in_the_order_of_the_plans(self):
        self.assertEqual((3, 0, 1), meet(R, T, ((1, 0),), ((3, 1),)))
        self.assertEqual((3, 1, 0), meet(R, T, ((3, 1),), ((1, 0),)))
        self.assertEqual((3, 0, 1), meet(R, T, ((3, 0),), ((1, 1),)))

    def test_the_first_one_is_told(self):
        self.assertEqual((0, 0, 1), meet(R, T, ((0, 0), (0, 1)), ((0, 1), (0, 2))))
        self.assertEqual((1, 0, 2), meet(R, T, ((1, 0), (2, 1)), ((1, 0), (1, 2), (2, 0))))
        self.assertEqual((2, 1, 0), meet(R, T, ((2, 1), (3, 0)), ((0, 0),)))

    def test_acts_that_are_planned_around_count_where_they_are_wanted(self):
        # The second plan wants 1 on the thing 3 alone, the first one 0 on all things, for the thing 3, too.
        self.assertEqual((3, 0, 1), meet(R, T, ((0, 0), (3, 0)), ((3, 1),)))
        self.assertIs(False, go_beside(R, T, ((0, 0), (3, 0)), ((3, 1),)))


if __name__ == "__main__":
    unittest.main()
