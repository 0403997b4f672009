"""Promise [11]: lost and groups."""

import itertools
import random
import unittest

from holdmodes.tables import groups, lost
from tests.drawn import mode_cases
from tests.samples import I, R, S, X, all_modes, all_rules, drawn_rules
from tests.told import told_groupings, told_groups, told_lost, told_table


class Lost(unittest.TestCase):

    def check(self, rules, modes, grouping):
        self.assertEqual(told_lost(rules, modes, grouping), lost(rules, modes, grouping), (rules, modes, grouping))

    def test_the_example(self):
        self.assertEqual(2, lost(R, (S, X, I), (0, 1, 0)))

    def test_all_groupings_of_up_to_five_modes(self):
        for rules, modes in mode_cases(501, 120, 5):
            for grouping in told_groupings(len(modes)):
                self.check(rules, modes, grouping)

    def test_drawn_groupings_of_up_to_twelve_modes(self):
        draw = random.Random(502)
        for rules, modes in mode_cases(503, 300, 12):
            grouping = ()
            while len(grouping) < len(modes):
                grouping += (draw.randint(0, max(grouping, default=-1) + 1),)
            self.check(rules, modes, grouping)

    def test_nothing_is_lost_where_each_mode_is_alone(self):
        for rules, modes in mode_cases(504, 120, 12):
            self.assertEqual(0, lost(rules, modes, tuple(range(len(modes)))))

    def test_all_in_one_group(self):
        for rules, modes in mode_cases(505, 120, 12):
            right = told_table(rules, modes)
            pairs = len(modes) * (len(modes) + 1) // 2
            self.assertEqual(0 if len(right) == pairs else len(right), lost(rules, modes, (0,) * len(modes)))

    def test_a_mode_beside_itself_may_be_lost(self):
        self.assertEqual(1, lost(R, (S, X), (0, 0)))
        self.assertEqual(2, lost(R, (S, ((2,), (2,))), (0, 0)))
        self.assertEqual(0, lost(R, (S, ((), (0,))), (0, 0)))

    def test_all_pairs_and_triples_of_modes_of_few_acts(self):
        for rules in all_rules(1):
            for modes in itertools.permutations(all_modes(1), 3):
                for grouping in told_groupings(3):
                    self.check(rules, modes, grouping)
        for rules in all_rules(2):
            for modes in itertools.combinations(all_modes(2), 2):
                for grouping in told_groupings(2):
                    self.check(rules, modes, grouping)


class Groups(unittest.TestCase):

    def check(self, rules, modes, most):
        found = groups(rules, modes, most)
        self.assertEqual(told_groups(rules, modes, most), found, (rules, modes, most))
        self.assertIs(tuple, type(found))

    def test_the_example(self):
        self.assertEqual((0, 0, 1), groups(R, (S, X, I), 2))

    def test_up_to_five_modes_against_all_groupings(self):
        for rules, modes in mode_cases(511, 150, 5):
            for most in range(1, 7):
                self.check(rules, modes, most)

    def test_six_modes_against_all_groupings(self):
        draw = random.Random(512)
        for rules in drawn_rules(513, 24):
            if rules[0] > 1:
                modes = tuple(draw.sample(all_modes(rules[0]), 6))
                self.check(rules, modes, draw.randint(1, 6))

    def test_as_many_groups_as_modes_lose_nothing(self):
        for rules, modes in mode_cases(514, 60, 6):
            self.assertEqual(0, lost(rules, modes, groups(rules, modes, len(modes))))
            self.assertEqual(0, lost(rules, modes, groups(rules, modes, 6)))

    def test_one_group(self):
        for rules, modes in mode_cases(515, 60, 6):
            self.assertEqual((0,) * len(modes), groups(rules, modes, 1))

    def test_the_first_of_the_best(self):
        # Where all go, or none does, nothing can be lost, and the first grouping has one group.
        every = tuple((i, j) for i in range(3) for j in range(i, 3))
        modes = (S, X, ((2,), (2,)), ((0,), (0, 1)), ((1,), (1, 2)), ((0, 2), (0, 2)))
        for most in range(1, 7):
            self.assertEqual((0,) * 6, groups((3, every), modes, most))
            self.assertEqual((0,) * 6, groups((3, ()), modes, most))

    def test_more_groups_lose_no_more(self):
        for rules, modes in mode_cases(516, 60, 6):
            many = [lost(rules, modes, groups(rules, modes, most)) for most in range(1, 7)]
            self.assertEqual(sorted(many, reverse=True), many)


if __name__ == "__main__":
    unittest.main()
