"""Promises [9] and [10]: table, table_error, full, alike, kinds, serves and fewest."""

import itertools
import random
import unittest

from holdmodes.tables import alike, fewest, full, kinds, serves, table, table_error
from tests.drawn import mode_cases
from tests.samples import I, R, S, X, all_modes, all_rules, changed, drawn_mode, drawn_rules, odd_values, with_odd_parts
from tests.told import (
    told_alike, told_covers, told_friends, told_is_mode, told_serves, told_table, told_table_error,
)


class Table(unittest.TestCase):

    def check(self, rules, modes):
        found = table(rules, modes)
        self.assertEqual(told_table(rules, modes), found, (rules, modes))
        self.assertTrue(type(found) is tuple and all(type(pair) is tuple for pair in found))

    def test_the_example(self):
        self.assertEqual(((0, 0), (2, 2)), table(R, (S, X, I)))

    def test_one_to_twelve_modes(self):
        for rules, modes in mode_cases(401, 400):
            self.check(rules, modes)

    def test_all_modes_of_two_acts(self):
        for rules in all_rules(2):
            self.check(rules, tuple(all_modes(2)))
            self.check(rules, tuple(all_modes(2)[::-1]))

    def test_a_mode_stands_beside_itself_just_if_it_goes_with_itself(self):
        for rules in all_rules(2):
            for mode in all_modes(2):
                told = ((0, 0),) if mode in told_friends(rules, mode) else ()
                self.assertEqual(told, table(rules, (mode,)))

    def test_twelve_modes_of_which_all_go(self):
        pairs = tuple((i, j) for i in range(12) for j in range(i, 12))
        modes = tuple(all_modes(6)[::60])[:12]
        every = tuple((i, j) for i in range(6) for j in range(i, 6))
        self.assertEqual(pairs, table((6, every), modes))
        self.assertEqual(12, len(modes))


class TableError(unittest.TestCase):

    def check(self, told, rules, modes, value):
        found = table_error(rules, modes, value)
        self.assertEqual(told, found, (rules, modes, value))
        self.assertIs(type(told), type(found))

    def check_told(self, rules, modes, value):
        self.check(told_table_error(rules, modes, value), rules, modes, value)

    def test_the_examples(self):
        self.check(("lets", 0, 2), R, (S, X, I), ((0, 0), (0, 2), (2, 2)))
        self.check(("bars", 2, 2), R, (S, X, I), ((0, 0),))

    def test_the_table(self):
        for rules, modes in mode_cases(411, 300):
            self.check(None, rules, modes, told_table(rules, modes))

    def test_any_pairs(self):
        draw = random.Random(412)
        for rules, modes in mode_cases(413, 150):
            pairs = [(i, j) for i in range(len(modes)) for j in range(i, len(modes))]
            for value in ((), tuple(pairs), tuple(pair for pair in pairs if draw.random() < 0.5)):
                self.check_told(rules, modes, value)
            right = told_table(rules, modes)
            for at in range(len(right)):
                self.check(("bars",) + right[at], rules, modes, right[:at] + right[at + 1:])
                self.check(("bars",) + right[at], rules, modes, right[:at])
            for pair in pairs:
                if pair not in right:
                    self.check(("lets",) + pair, rules, modes, tuple(sorted(right + (pair,))))
                    self.check(("lets",) + pair, rules, modes, (pair,))

    def test_all_sets_of_pairs_of_three_modes(self):
        pairs = [(i, j) for i in range(3) for j in range(i, 3)]
        sets = [value for many in range(7) for value in itertools.combinations(pairs, many)]
        for rules in all_rules(2)[::2] + [R]:
            modes = (S, ((1,), (0, 1)), I)
            for value in sets:
                self.check_told(rules, modes, value)

    def test_what_the_table_lets_comes_ahead_of_what_it_bars(self):
        self.check(("lets", 1, 2), R, (S, X, I), ((1, 2),))
        self.check(("lets", 0, 1), R, (S, X, I), ((0, 1), (0, 2), (1, 1)))
        self.check(("bars", 0, 0), R, (S, X, I), ())

    def test_no_ascending_tuple_of_pairs(self):
        modes = (S, X, I)
        for value in (None, 0, "", "table", [], {}, [(0, 0), (2, 2)], ((0, 0), [2, 2]), (0, 0), ((0, 0), 2), ((0,), (2,)),
                      ((0, 0, 0), (2, 2)), ((2, 2), (0, 0)), ((0, 0), (0, 0), (2, 2)), ((0, 0), (2, 2), (2, 2)),
                      ((1, 0),), ((2, 1),), ((0, 0), (2, 2), (2, 3)), ((3, 3),), ((-1, 0),), ((0, -1),), ((-1, -1),),
                      ((False, False), (2, 2)), ((0, False), (2, 2)), ((0, 0), (True, 2)), ((0, 10 ** 39),),
                      ((0, "0"),), (("0", "0"),), ((None, None),), (((0, 0), (2, 2)),), ("00", "22")):
            self.check(("table",), R, modes, value)

    def test_tables_with_one_part_changed(self):
        for rules, modes in mode_cases(414, 80, 5):
            for value in changed(told_table(rules, modes)):
                self.check_told(rules, modes, value)

    def test_values_of_all_kinds(self):
        for odd in odd_values():
            for value in with_odd_parts(((0, 0), (2, 2)), odd):
                self.check_told(R, (S, X, I), value)


class Full(unittest.TestCase):

    def test_the_example(self):
        self.assertEqual(((0, 1, 2), (0, 1, 2)), full(R, X))

    def test_all_modes_of_rules_of_few_acts(self):
        for acts in (1, 2, 3):
            modes = all_modes(acts)
            for rules in all_rules(acts):
                friends = {mode: frozenset(told_friends(rules, mode, modes)) for mode in modes}
                alike_modes = {}
                for mode in modes:
                    alike_modes.setdefault(friends[mode], []).append(mode)
                for mode in modes:
                    found = full(rules, mode)
                    self.assertEqual(friends[mode], friends[found], (rules, mode))
                    for other in alike_modes[friends[mode]]:
                        self.assertTrue(told_covers(found, other), (rules, mode, found, other))

    def test_drawn_modes_of_up_to_six_acts(self):
        draw = random.Random(421)
        for rules in drawn_rules(422, 48):
            mode = drawn_mode(draw, rules[0])
            found = full(rules, mode)
            self.assertTrue(told_is_mode(rules, found), (rules, mode))
            friends = told_friends(rules, mode)
            self.assertEqual(friends, told_friends(rules, found), (rules, mode))
            modes = all_modes(rules[0])
            for other in draw.sample(modes, min(len(modes), 60)):
                if not told_covers(found, other):
                    self.assertNotEqual(friends, told_friends(rules, other), (rules, mode, other))

    def test_own_and_means_are_widened_apart(self):
        self.assertEqual(((), (0, 1, 2)), full(R, I))
        self.assertEqual(((0,), (0, 1, 2)), full(R, ((0,), (0, 2))))
        self.assertEqual(((2,), (2,)), full(R, ((2,), (2,))))
        # An act that is against nothing is in each of them.
        free = (2, ((0, 0), (0, 1)))
        self.assertEqual(((0,), (0,)), full(free, ((), ())))
        self.assertEqual(((0,), (0, 1)), full(free, ((), (1,))))


class Alike(unittest.TestCase):

    def test_the_example(self):
        self.assertIs(True, alike(R, X, ((0, 1), (0, 1, 2))))

    def test_all_modes_of_rules_of_few_acts(self):
        for acts in (1, 2, 3):
            modes = all_modes(acts)
            for rules in all_rules(acts)[::3]:
                friends = {mode: told_friends(rules, mode, modes) for mode in modes}
                for one, other in itertools.product(modes, repeat=2):
                    self.assertIs(friends[one] == friends[other], alike(rules, one, other), (rules, one, other))

    def test_drawn_modes_of_up_to_six_acts(self):
        draw = random.Random(431)
        for rules in drawn_rules(432, 60):
            for _ in range(5):
                one, other = drawn_mode(draw, rules[0]), drawn_mode(draw, rules[0])
                self.assertIs(told_alike(rules, one, other), alike(rules, one, other), (rules, one, other))
                self.assertIs(True, alike(rules, one, one))
                self.assertIs(True, alike(rules, one, full(rules, one)))


class Kinds(unittest.TestCase):

    def check(self, rules):
        found = kinds(rules)
        self.assertEqual(tuple(sorted({full(rules, mode) for mode in all_modes(rules[0])})), found, rules)
        self.assertIs(tuple, type(found))

    def test_the_example(self):
        self.assertEqual(9, len(kinds(R)))

    def test_one_for_each_set_of_modes_that_go(self):
        for acts in (1, 2, 3):
            modes = all_modes(acts)
            for rules in all_rules(acts)[::2]:
                many = len({frozenset(told_friends(rules, mode, modes)) for mode in modes})
                self.assertEqual(many, len(kinds(rules)), rules)

    def test_what_full_tells_of_all_modes(self):
        for acts in (1, 2, 3):
            for rules in all_rules(acts):
                self.check(rules)
        for rules in drawn_rules(441, 60):
            self.check(rules)

    def test_the_fewest_and_the_most(self):
        every = tuple((i, j) for i in range(6) for j in range(i, 6))
        whole = tuple(range(6))
        self.assertEqual(((whole, whole),), kinds((6, every)))
        self.assertEqual((((), ()), ((), whole), (whole, whole)), kinds((6, ())))
        unlike = (6, tuple((i, j) for i, j in every if i != j))
        self.assertEqual(729, len(kinds(unlike)))


class Serves(unittest.TestCase):

    def check_told(self, rules, modes, value):
        self.assertIs(told_serves(rules, modes, value), serves(rules, modes, value), (rules, modes, value))

    def test_all_pairs_of_modes_for_two(self):
        for rules in all_rules(1) + all_rules(2):
            modes = all_modes(rules[0])
            for one, other in itertools.combinations(modes, 2):
                for value in itertools.chain([()], itertools.product(modes, repeat=1), itertools.product(modes, repeat=2)):
                    self.check_told(rules, (one, other), value)

    def test_what_fewest_tells_serves_and_no_less(self):
        draw = random.Random(451)
        for rules, modes in mode_cases(452, 36, 5):
            value = fewest(rules, modes)
            self.check_told(rules, modes, value)
            self.assertIs(True, serves(rules, modes, value), (rules, modes))
            self.assertIs(True, serves(rules, modes, value[::-1] + value))
            self.assertIs(True, serves(rules, modes, modes))
            for at in range(len(value)):
                self.assertIs(False, serves(rules, modes, value[:at] + value[at + 1:]), (rules, modes, at))
            for _ in range(4):
                any_value = tuple(draw.choice(all_modes(rules[0]) + list(value)) for _ in range(draw.randint(0, 5)))
                self.check_told(rules, modes, any_value)
                self.check_told(rules, modes, any_value + value)

    def test_it_has_to_be_alike_and_to_cover(self):
        whole = ((0, 1, 2), (0, 1, 2))
        self.assertIs(False, serves(R, (S,), (whole,)))
        self.assertIs(False, serves(R, (((0, 1), (0, 1)),), (X,)))
        self.assertIs(True, serves(R, (X, ((0, 1), (0, 1))), (whole,)))
        # One covers the mode, the other is alike to it, and none is both.
        self.assertIs(False, serves(R, (((), (1, 2)),), (((2,), (1, 2)), ((), (1,)))))

    def test_wrong_values(self):
        for value in ((), [], [S, X, I], (S, X, I, None), (S, X, I, ((0,), (1,))), (S, X, I, ((3,), (3,))),
                      (S, X, [(), (1,)]), (S, X, ((), [1])), (S, X, ((), (True,))), (((False,), (False,)), X, I), None, "",
                      {S: X}, 0, (S, X, I, ()), S, ((S, X, I),)):
            self.assertIs(False, serves(R, (S, X, I), value), value)
        self.assertIs(True, serves(R, (S, X, I), (I, X, S, X)))

    def test_values_with_one_part_changed(self):
        for rules, modes in mode_cases(453, 30, 3):
            for value in changed(fewest(rules, modes)):
                self.check_told(rules, modes, value)

    def test_values_of_all_kinds(self):
        for odd in odd_values():
            for value in with_odd_parts((S, X, I), odd):
                self.check_told(R, (S, X, I), value)

    def test_the_longest_values(self):
        free = (6, tuple((i, j) for i in range(6) for j in range(i, 6)))
        many = tuple(all_modes(6))
        self.assertIs(True, serves(free, (((), ()),) + many[5:16], many))
        self.assertIs(False, serves(R, (X, S), (S,) * 2500))


class Fewest(unittest.TestCase):

    def check(self, rules, modes):
        found = fewest(rules, modes)
        self.assertEqual(tuple(sorted({full(rules, mode) for mode in modes})), found, (rules, modes))
        self.assertIs(tuple, type(found))

    def test_what_full_tells_of_the_modes(self):
        for rules, modes in mode_cases(461, 300):
            self.check(rules, modes)
        self.assertEqual((((), (0, 1, 2)), ((0,), (0,)), ((0, 1, 2), (0, 1, 2))), fewest(R, (X, S, I)))

    def test_no_tuple_that_serves_has_fewer_items(self):
        for rules in all_rules(1) + all_rules(2):
            modes = all_modes(rules[0])
            for told in itertools.combinations(modes, 3):
                many = len(fewest(rules, told))
                for value in itertools.combinations(modes, many - 1):
                    self.assertFalse(serves(rules, told, value), (rules, told, value))

    def test_each_of_the_modes_alone(self):
        for rules in all_rules(2):
            for mode in all_modes(2):
                self.assertEqual((full(rules, mode),), fewest(rules, (mode,)))


if __name__ == "__main__":
    unittest.main()
