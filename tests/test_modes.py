"""Promise [5], and what [3] says of it: is_mode, covers, joined and goes."""

import copy
import itertools
import random
import unittest

from holdmodes.modes import covers, goes, is_mode, joined
from tests.samples import I, R, S, X, all_modes, all_rules, drawn_mode, drawn_rules, is_odd_act, odd_values
from tests.told import told_covers, told_goes, told_joined


def short_tuples(items, most):
    return [row for many in range(most + 1) for row in itertools.product(items, repeat=many)]


class IsMode(unittest.TestCase):

    def check(self, told, rules, value):
        self.assertIs(told, is_mode(rules, value), (rules, value))

    def test_the_examples(self):
        self.check(False, R, ((0,), (1,)))
        for mode in (S, X, I):
            self.check(True, R, mode)

    def test_all_modes(self):
        for acts in range(1, 7):
            for mode in all_modes(acts):
                self.check(True, (acts, ()), mode)
                self.check(True, (acts, ((0, 0),)), mode)

    def test_all_pairs_of_short_tuples(self):
        for acts in (1, 2):
            modes = set(all_modes(acts))
            rows = short_tuples(range(-1, acts + 1), 3)
            for value in itertools.product(rows, repeat=2):
                self.check(value in modes, (acts, ()), value)

    def test_own_that_is_not_in_means(self):
        for own, means in ((0,), ()), ((0,), (1,)), ((0, 1), (0,)), ((0, 1), (1, 2)), ((0, 2), (0, 1)), ((0, 1, 2), (0, 2)):
            self.check(False, R, (own, means))

    def test_acts_that_there_are_not(self):
        for acts in range(1, 6):
            for mode in all_modes(acts + 1):
                self.check(acts not in mode[1], (acts, ()), mode)
        self.check(False, (6, ()), ((), (6,)))
        self.check(False, (6, ()), ((), (-1,)))
        self.check(False, (6, ()), ((-1,), (-1, 0)))

    def test_acts_out_of_order_or_doubled(self):
        draw = random.Random(11)
        for rules in drawn_rules(12, 120):
            own, means = drawn_mode(draw, rules[0])
            for at in range(len(means)):
                self.check(False, rules, (own, means[:at] + (means[at],) + means[at:]))
                if at > 0:
                    self.check(False, rules, (own, means[:at - 1] + (means[at], means[at - 1]) + means[at + 1:]))
            for at in range(len(own)):
                self.check(False, rules, (own[:at] + (own[at],) + own[at:], means))
                if at > 0:
                    self.check(False, rules, (own[:at - 1] + (own[at], own[at - 1]) + own[at + 1:], means))

    def test_lists_in_the_place_of_tuples(self):
        for mode in all_modes(3):
            own, means = mode
            for value in ([own, means], (list(own), means), (own, list(means)), (list(own), list(means))):
                self.check(False, R, value)

    def test_bools_in_the_place_of_numbers(self):
        for value in (((True,), (1,)), ((1,), (True,)), ((True,), (True,)), ((), (False,)), ((False,), (False,)),
                      ((False,), (0, 1)), ((), (0, True)), ((), (False, True)), ((0, True), (0, 1))):
            self.check(False, R, value)
        self.check(False, (1, ((0, 0),)), ((False,), (0,)))

    def test_values_of_all_kinds(self):
        for value in odd_values():
            self.check(False, R, value)
            for held in ((value,), (value, (0,)), ((), value), ((0,), (0,), value), (value, value), [value, value]):
                self.check(False, R, held)
            if is_odd_act(value):
                self.check(False, (6, ()), ((value,), (0, 1, 2, 3, 4, 5)))
                self.check(False, (6, ()), ((), (value,)))
                self.check(False, (6, ()), ((value,), (value,)))
                self.check(False, (6, ()), ((0,), (0, value)))

    def test_tuples_that_are_no_pairs(self):
        for value in ((), (0,), ((),), ((0,),), ((), (), ()), ((0,), (0,), (0,)), (0, 0), "00", ("0", "0"), 0):
            self.check(False, R, value)

    def test_the_value_stays_as_it_is(self):
        for value in ([[0], [0]], ([0], [0, 1]), ((0,), [1, 0]), {0: [0], 1: [0]}, ([1, 0], {1: [2]})):
            before = copy.deepcopy(value)
            is_mode(R, value)
            self.assertEqual(before, value)


class Goes(unittest.TestCase):

    def check(self, rules, one, other):
        self.assertIs(told_goes(rules, one, other), goes(rules, one, other), (rules, one, other))

    def test_the_examples(self):
        found = goes(R, S, S), goes(R, S, I), goes(R, I, I), goes(R, X, I)
        self.assertEqual((True, False, True, False), found)

    def test_all_modes_of_all_rules_of_few_acts(self):
        for acts in (1, 2, 3):
            modes = all_modes(acts)
            for rules in all_rules(acts):
                for one, other in itertools.product(modes, repeat=2):
                    self.check(rules, one, other)

    def test_drawn_modes_of_up_to_six_acts(self):
        draw = random.Random(21)
        for rules in drawn_rules(22, 300):
            for _ in range(30):
                self.check(rules, drawn_mode(draw, rules[0]), drawn_mode(draw, rules[0]))

    def test_own_is_not_held_against_own_that_is_not_meant(self):
        # Means beside means never hinders, whatever is against it.
        for acts in (1, 2, 3):
            for rules in all_rules(acts):
                for one, other in itertools.product(all_modes(acts), repeat=2):
                    self.assertIs(True, goes(rules, ((), one[1]), ((), other[1])))

    def test_one_way_alone_hinders(self):
        rules = (2, ((0, 0), (1, 1)))
        self.assertIs(False, goes(rules, ((0,), (0,)), ((), (1,))))
        self.assertIs(False, goes(rules, ((), (1,)), ((0,), (0,))))

    def test_a_mode_need_not_go_with_itself(self):
        self.assertIs(False, goes(R, X, X))
        self.assertIs(True, goes(R, ((2,), (2,)), ((2,), (2,))))
        self.assertIs(False, goes(R, ((0,), (0, 1)), ((0,), (0, 1))))

    def test_goes_is_the_same_both_ways(self):
        draw = random.Random(23)
        for rules in drawn_rules(24, 300):
            for _ in range(10):
                one, other = drawn_mode(draw, rules[0]), drawn_mode(draw, rules[0])
                self.assertIs(goes(rules, one, other), goes(rules, other, one))

    def test_what_goes_with_a_mode_goes_with_what_it_covers(self):
        draw = random.Random(25)
        for rules in drawn_rules(26, 300):
            for _ in range(20):
                one, other = drawn_mode(draw, rules[0]), drawn_mode(draw, rules[0])
                own = tuple(act for act in other[0] if draw.random() < 0.5)
                less = own, tuple(act for act in other[1] if act in own or draw.random() < 0.5)
                self.assertIs(True, covers(other, less))
                if goes(rules, one, other):
                    self.assertIs(True, goes(rules, one, less), (rules, one, other, less))


class Covers(unittest.TestCase):

    def check(self, one, other):
        self.assertIs(told_covers(one, other), covers(one, other), (one, other))

    def test_the_examples(self):
        self.assertIs(True, covers(X, I))
        self.assertIs(False, covers(I, X))

    def test_all_modes_of_three_acts(self):
        for one, other in itertools.product(all_modes(3), repeat=2):
            self.check(one, other)

    def test_drawn_modes_of_up_to_six_acts(self):
        draw = random.Random(31)
        for k in range(4000):
            one, other = drawn_mode(draw, k % 6 + 1), drawn_mode(draw, k // 6 % 6 + 1)
            self.check(one, other)
            self.check(told_joined(one, other), other)

    def test_a_mode_covers_itself(self):
        for mode in all_modes(6):
            self.assertIs(True, covers(mode, mode))

    def test_both_parts_count(self):
        self.assertIs(False, covers(((), (0, 1)), ((0,), (0,))))
        self.assertIs(False, covers(((0,), (0,)), ((0,), (0, 1))))
        self.assertIs(True, covers(((0,), (0, 1)), ((), (0, 1))))
        self.assertIs(True, covers(((0,), (0, 1)), ((), ())))


class Joined(unittest.TestCase):

    def check(self, one, other):
        found = joined(one, other)
        self.assertEqual(told_joined(one, other), found, (one, other))
        self.assertIs(tuple, type(found))
        self.assertIs(tuple, type(found[0]))
        self.assertIs(tuple, type(found[1]))

    def test_the_example(self):
        self.assertEqual(((0,), (0, 1)), joined(S, I))

    def test_all_modes_of_three_acts(self):
        for one, other in itertools.product(all_modes(3), repeat=2):
            self.check(one, other)

    def test_drawn_modes_of_up_to_six_acts(self):
        draw = random.Random(41)
        for k in range(4000):
            self.check(drawn_mode(draw, k % 6 + 1), drawn_mode(draw, k // 6 % 6 + 1))

    def test_acts_of_both_stand_once_and_ascend(self):
        self.assertEqual(((1, 4), (0, 1, 3, 4, 5)), joined(((4,), (0, 4, 5)), ((1,), (0, 1, 3))))

    def test_the_joined_one_is_the_least_mode_that_covers_both(self):
        modes = all_modes(3)
        for one, other in itertools.product(modes, repeat=2):
            both = joined(one, other)
            self.assertIs(True, is_mode(R, both))
            for mode in modes:
                self.assertIs(covers(mode, one) and covers(mode, other), covers(mode, both), (mode, one, other))

    def test_what_goes_with_two_modes_goes_with_the_joined_one(self):
        for rules in all_rules(2):
            for mode, one, other in itertools.product(all_modes(2), repeat=3):
                both = goes(rules, mode, one) and goes(rules, mode, other)
                self.assertIs(both, goes(rules, mode, joined(one, other)), (rules, mode, one, other))
        draw = random.Random(42)
        for rules in drawn_rules(43, 600):
            for _ in range(20):
                mode, one, other = [drawn_mode(draw, rules[0]) for _ in range(3)]
                both = goes(rules, mode, one) and goes(rules, mode, other)
                self.assertIs(both, goes(rules, mode, joined(one, other)), (rules, mode, one, other))


class CallsApart(unittest.TestCase):

    def test_calls_do_not_disturb_one_another(self):
        draw = random.Random(51)
        calls = []
        for rules in drawn_rules(52, 60):
            one, other = drawn_mode(draw, rules[0]), drawn_mode(draw, rules[0])
            calls += [(goes, (rules, one, other)), (is_mode, (rules, one)), (is_mode, (rules, other[::-1])),
                      (covers, (one, other)), (joined, (one, other))]
        first = [function(*told) for function, told in calls]
        order = list(range(len(calls)))
        draw.shuffle(order)
        for k in order:
            function, told = calls[k]
            self.assertEqual(first[k], function(*told))


if __name__ == "__main__":
    unittest.main()
