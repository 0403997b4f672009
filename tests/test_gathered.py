"""Promise [15]: gathered, spare and is_gathered."""

import itertools
import random
import unittest

from holdmodes.plans import gathered, is_gathered, least_holds, spare
from tests.samples import (
    I, R, S, T, X, all_modes, all_trees, changed, drawn_mode, drawn_plan, drawn_tree, odd_values, subsets, with_odd_parts,
)
from tests.told import (
    told_closed_sets, told_fewest_of_all, told_fewest_rights, told_is_gathered, told_is_gathering, told_least_holds,
    told_rights,
)

STAR = (None,) + (0,) * 11
PATH = (None,) + tuple(range(11))


def drawn_cases(seed, many, things):
    """A number of acts, a tree of at most so many things and a plan for it, so many times."""
    draw = random.Random(seed)
    cases = []
    for k in range(many):
        tree = drawn_tree(draw, k // 6 % things + 1)
        cases.append((k % 6 + 1, tree, drawn_plan(draw, tree, k % 6 + 1, draw.choice((3, 6, 20)))))
    return cases


class Gathered(unittest.TestCase):

    def check(self, acts, tree, plan, most, fewest):
        """Whether what is gathered is a gathering of so few rights, of acts of the plan alone."""
        rules = (acts, ())
        value = gathered(tree, plan, most)
        told = (acts, tree, plan, most, value)
        self.assertTrue(told_is_gathering(rules, tree, plan, value), told)
        self.assertLessEqual(len(value), most, told)
        self.assertEqual(fewest, len(told_rights(tree, value)), told)
        self.assertLessEqual({act for _, mode in value for act in mode[1]}, {act for _, act in plan}, told)
        self.assertIs(True, is_gathered(rules, tree, plan, most, value), told)
        self.assertEqual(fewest - len(told_rights(tree, told_least_holds(tree, plan))), spare(tree, plan, most), told)

    def test_the_examples(self):
        plan = ((2, 0), (3, 0))
        self.assertEqual([0, 1, 2], [spare(T, plan, most) for most in (4, 3, 1)])

    def test_against_all_that_may_be_held_on_small_trees(self):
        for many in (1, 2, 3, 4):
            for tree in all_trees(many):
                for plan in subsets(itertools.product(range(many), range(1)))[1:]:
                    for most in range(1, many + 2):
                        self.check(1, tree, plan, most, told_fewest_of_all(tree, plan, 1, most))
        for many in (1, 2, 3):
            for tree in all_trees(many):
                for plan in subsets(itertools.product(range(many), range(2)))[1:]:
                    for most in range(1, many + 1):
                        self.check(2, tree, plan, most, told_fewest_of_all(tree, plan, 2, most))

    def test_against_all_sets_of_things_on_trees_of_up_to_seven(self):
        for acts, tree, plan in drawn_cases(801, 210, 7):
            sets = told_closed_sets(tree)
            for most in range(1, 13):
                self.check(acts, tree, plan, most, told_fewest_rights(tree, plan, most, sets))

    def test_larger_trees(self):
        # The last ones have nine and ten things.
        for acts, tree, plan in drawn_cases(802, 60, 10)[-12:]:
            sets = told_closed_sets(tree)
            for most in (1, 2, 4, 6, 9, 12):
                self.check(acts, tree, plan, most, told_fewest_rights(tree, plan, most, sets))

    def test_the_largest_trees_and_plans_with_each_number_as_most(self):
        draw = random.Random(803)
        pairs = list(itertools.product(range(12), range(6)))
        for tree in (STAR, PATH, drawn_tree(draw, 12), (None, 0, 0, 1, 1, 2, 2, 3, 3, 4, 5, 6)):
            plan = tuple(sorted(draw.sample(pairs, 20)))
            counts = []
            for most in range(1, 13):
                value = gathered(tree, plan, most)
                self.assertTrue(told_is_gathering((6, ()), tree, plan, value))
                self.assertLessEqual(len(value), most)
                self.assertIs(True, is_gathered((6, ()), tree, plan, most, value))
                counts.append(len(told_rights(tree, value)))
                self.assertEqual(counts[-1] - len(told_rights(tree, least_holds(tree, plan))), spare(tree, plan, most))
            self.assertEqual(sorted(counts, reverse=True), counts)
            self.assertEqual(0, spare(tree, plan, 12))
            self.assertEqual(12 * len({act for _, act in plan}), counts[0])

    def test_a_star_and_a_path_of_twelve(self):
        # One thing of the star is left to the thing 0 just if all are.
        plan = tuple((thing, 0) for thing in range(1, 12))
        self.assertEqual([1] * 11 + [0], [spare(STAR, plan, most) for most in range(1, 13)])
        # What is planned for the last thing of the path is done on as many more as holds are too few.
        self.assertEqual(list(range(11, -1, -1)), [spare(PATH, ((11, 0),), most) for most in range(1, 13)])
        # Eleven things with acts of their own: an act that is moved up to the thing 0 gives eleven rights more.
        plan = tuple((thing, (thing - 1) // 2) for thing in range(1, 12))
        told = told_fewest_rights(STAR, plan, 4) - 11
        self.assertEqual(told, spare(STAR, plan, 4))

    def test_as_many_holds_as_the_least_ones_spare_nothing(self):
        for acts, tree, plan in drawn_cases(804, 240, 12):
            many = len(least_holds(tree, plan))
            self.assertEqual(0, spare(tree, plan, many))
            self.assertIs(True, is_gathered((acts, ()), tree, plan, many, least_holds(tree, plan)))

    def test_more_holds_need_no_more_rights(self):
        for acts, tree, plan in drawn_cases(805, 180, 12):
            counts = [spare(tree, plan, most) for most in range(1, 13)]
            self.assertEqual(sorted(counts, reverse=True), counts)
            self.assertEqual(0, counts[-1])

    def test_the_inner_thing_may_be_the_better_one_to_leave_out(self):
        # Below 1 stand 3 to 7, below 2 nothing: it is better to hold 1 and to leave 2 to the thing 0, or the other way.
        tree = (None, 0, 0, 1, 1, 1, 1, 1)
        self.assertEqual(told_fewest_of_all(tree[:3], ((1, 0), (2, 0)), 1, 2), 3)
        for plan in (((2, 0), (3, 1)), ((2, 0), (3, 0)), ((1, 1), (2, 0)), ((1, 0), (2, 0), (3, 1), (4, 1))):
            for most in range(1, 6):
                self.check(2, tree, plan, most, told_fewest_rights(tree, plan, most))


class IsGathered(unittest.TestCase):

    def check_told(self, rules, tree, plan, most, value):
        told = told_is_gathered(rules, tree, plan, most, value)
        self.assertIs(told, is_gathered(rules, tree, plan, most, value), (rules, tree, plan, most, value))
        return told

    def test_the_example(self):
        self.assertIs(True, is_gathered(R, T, ((3, 1),), 2, ((0, ((), (1,))), (1, ((1,), (1,))))))

    def test_all_values_of_two_acts_on_small_trees(self):
        rules, modes, found = (2, ()), [None] + all_modes(2), 0
        for tree, plans in (((None,), (((0, 0),), ((0, 0), (0, 1)))),
                            ((None, 0), (((1, 0),), ((0, 1), (1, 0)), ((1, 0), (1, 1)), ((0, 0), (1, 0)))),
                            ((None, 0, 0), (((1, 0), (2, 1)), ((2, 0),))),
                            ((None, 0, 1), (((1, 0), (2, 1)),))):
            for held in itertools.product(modes, repeat=len(tree)):
                value = tuple((thing, mode) for thing, mode in enumerate(held) if mode is not None)
                for plan in plans:
                    for most in (1, 2, 3)[:len(tree)]:
                        found += self.check_told(rules, tree, plan, most, value)
        self.assertGreater(found, 30)

    def test_more_may_be_meant_and_held_than_is_needed(self):
        whole = (0, 1, 2)
        self.assertIs(True, is_gathered(R, T, ((3, 1),), 3, ((0, ((), whole)), (1, ((), (1,))), (3, ((1,), (1,))))))
        self.assertIs(True, is_gathered(R, T, ((3, 1),), 4,
                                        ((0, ((), whole)), (1, ((), whole)), (2, ((), ())), (3, ((1,), (1, 2))))))
        self.assertIs(True, is_gathered(R, T, ((0, 1),), 4, ((0, X), (1, ((), ())), (2, X), (3, ((), ())))))
        self.assertIs(True, is_gathered(R, T, ((0, 1),), 4, ((0, X), (1, X), (3, X))))

    def test_what_is_no_gathering(self):
        plan = ((3, 1),)
        for value in ((), ((3, X),), ((1, X),), ((0, I), (3, X)), ((1, I), (3, X)), ((0, I), (1, I)), ((0, S), (1, X)),
                      ((0, ((), ())), (1, X)), ((0, I), (1, ((), ())), (3, X)), ((1, X), (0, I)), ((0, I), (0, X)),
                      ((0, I), (1, I), (1, X)), ((0, I), (1, X), (1, X)), ((0, I), (2, X)), ((0, I), (1, S))):
            self.assertIs(False, is_gathered(R, T, plan, 12, value), value)

    def test_too_many_rights_or_too_many_holds(self):
        plan = ((3, 1),)
        least = ((0, I), (1, I), (3, X))
        self.assertIs(True, is_gathered(R, T, plan, 3, least))
        self.assertIs(False, is_gathered(R, T, plan, 2, least))
        self.assertIs(False, is_gathered(R, T, plan, 3, ((0, I), (1, X))))
        self.assertIs(True, is_gathered(R, T, plan, 2, ((0, I), (1, X))))
        self.assertIs(False, is_gathered(R, T, plan, 2, ((0, X),)))
        self.assertIs(True, is_gathered(R, T, plan, 1, ((0, X),)))
        both = ((0, 1), (0, 1))
        self.assertIs(False, is_gathered(R, T, plan, 3, ((0, ((), (0, 1))), (1, ((), (0, 1))), (3, both))))

    def test_gatherings_changed(self):
        draw = random.Random(811)
        for acts, tree, plan in drawn_cases(812, 90, 6):
            rules, most = (acts, ()), draw.randint(1, 6)
            value = gathered(tree, plan, most)
            for at, (thing, mode) in enumerate(value):
                self.check_told(rules, tree, plan, most, value[:at] + value[at + 1:])
                for other in (drawn_mode(draw, acts), drawn_mode(draw, acts), ((), mode[1]), (mode[1], mode[1])):
                    self.check_told(rules, tree, plan, most, value[:at] + ((thing, other),) + value[at + 1:])
            for thing in range(len(tree)):
                put_in = tuple(sorted(value + ((thing, drawn_mode(draw, acts)),)))
                self.check_told(rules, tree, plan, most, put_in)
            for other_most in range(1, 7):
                self.check_told(rules, tree, plan, other_most, value)

    def test_gatherings_with_one_part_changed(self):
        for acts, tree, plan in drawn_cases(813, 30, 5):
            for value in changed(gathered(tree, plan, 3)):
                self.check_told((acts, ()), tree, plan, 3, value)

    def test_wrong_values(self):
        for value in (None, 0, "", [], [(0, I), (1, X)], ([0, I], (1, X)), ((0, [(), (1,)]), (1, X)), ((0,), (1,)),
                      ((False, I), (True, X)), ((0, I), (True, X)), ((0, I), (1, ((True,), (True,)))),
                      ((0, I, 0), (1, X, 0)), ((0, 0, I), (0, 1, X)), ((0, I), (1, X), ()), ((0, I), (1, X), None),
                      ((0, I), (4, X)), ((-1, I), (1, X)), {0: I, 1: X}, ((0, I), (1, ((1,), ()))),
                      ((0, ((), (1, 3))), (1, X)), (0, I), ("ab", "cd")):
            self.assertIs(False, is_gathered(R, T, ((3, 1),), 2, value), value)

    def test_values_of_all_kinds(self):
        for odd in odd_values():
            for value in with_odd_parts(((0, I), (1, X)), odd):
                self.check_told(R, T, ((3, 1),), 2, value)


if __name__ == "__main__":
    unittest.main()
