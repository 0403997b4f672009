"""Promise [4], and what [3] says of it: rules_error and against."""

import copy
import itertools
import random
import unittest

from holdmodes.rules import against, rules_error
from tests.samples import R, act_pairs, all_lots, all_rules, drawn_rules, is_odd_act, may_beside, odd_values


def told_error(acts, beside):
    """What rules_error tells of an integer and a tuple of pairs of integers."""
    if acts < 1 or acts > 6:
        return "acts"
    if list(beside) != sorted(set(beside)):
        return "beside"
    if any(i < 0 or j < i or acts <= j for i, j in beside):
        return "beside"
    return None


class RulesErrorOfRules(unittest.TestCase):

    def test_the_example(self):
        self.assertEqual((None, "beside"), (rules_error(R), rules_error((3, ((1, 0),)))))

    def test_all_rules_of_few_acts(self):
        for acts in (1, 2, 3):
            for rules in all_rules(acts):
                self.assertIsNone(rules_error(rules), rules)

    def test_rules_of_one_to_six_acts(self):
        for acts in range(1, 7):
            self.assertIsNone(rules_error((acts, ())))
            self.assertIsNone(rules_error((acts, tuple(act_pairs(acts)))))
        for rules in drawn_rules(1, 300):
            self.assertIsNone(rules_error(rules), rules)

    def test_equal_calls_tell_the_same(self):
        for value in (R, (3, ((1, 0),)), (0, ()), None):
            self.assertEqual(rules_error(value), rules_error(value))


class RulesErrorOfOthers(unittest.TestCase):

    def test_numbers_of_acts_that_rules_do_not_have(self):
        for acts in (0, 7, -1, -6, 60, 10 ** 39):
            self.assertEqual("acts", rules_error((acts, ())), acts)
            self.assertEqual("acts", rules_error((acts, ((0, 0),))), acts)

    def test_all_short_tuples_of_pairs(self):
        pairs = list(itertools.product(range(-1, 3), repeat=2))
        for many in (0, 1, 2):
            for beside in itertools.product(pairs, repeat=many):
                for acts in range(-1, 9):
                    self.assertEqual(told_error(acts, beside), rules_error((acts, beside)), (acts, beside))

    def test_pairs_out_of_order_or_doubled(self):
        for acts, beside in drawn_rules(2, 300):
            for at in range(len(beside)):
                doubled = beside[:at] + (beside[at],) + beside[at:]
                self.assertEqual("beside", rules_error((acts, doubled)), doubled)
                if at > 0:
                    swapped = beside[:at - 1] + (beside[at], beside[at - 1]) + beside[at + 1:]
                    self.assertEqual("beside", rules_error((acts, swapped)), swapped)
            if len(beside) > 1:
                self.assertEqual("beside", rules_error((acts, beside[::-1])))
                self.assertEqual("beside", rules_error((acts, beside + beside[:1])))

    def test_pairs_turned_or_of_other_acts_or_of_other_kinds(self):
        for acts, beside in drawn_rules(3, 200):
            for at, (i, j) in enumerate(beside):
                wrong = [(i, acts), (acts, acts), (-1, j), (i,), (), (i, j, j), [i, j], None, i, "00", {i: j},
                         (str(i), j), (i, str(j)), (None, j), (i, None), ((i,), j), (i, (j,)), ((i, j),)]
                wrong += [(j, i)] if i < j else []
                wrong += [(bool(i), j)] if i < 2 else []
                wrong += [(i, bool(j))] if j < 2 else []
                for pair in wrong:
                    changed = beside[:at] + (pair,) + beside[at + 1:]
                    self.assertEqual("beside", rules_error((acts, changed)), changed)

    def test_a_turned_pair_in_its_place(self):
        self.assertEqual("beside", rules_error((2, ((1, 0),))))
        self.assertEqual("beside", rules_error((3, ((0, 0), (2, 1), (2, 2)))))

    def test_lists_in_the_place_of_tuples(self):
        for acts, beside in drawn_rules(4, 60):
            self.assertEqual("rules", rules_error([acts, beside]))
            self.assertEqual("beside", rules_error((acts, list(beside))))
            self.assertEqual("acts", rules_error(([acts], beside)))
            for at in range(len(beside)):
                self.assertEqual("beside", rules_error((acts, beside[:at] + (list(beside[at]),) + beside[at + 1:])))

    def test_bools_in_the_place_of_numbers(self):
        self.assertEqual("acts", rules_error((True, ())))
        self.assertEqual("acts", rules_error((True, ((0, 0),))))
        self.assertEqual("acts", rules_error((False, ())))
        for pair in ((False, False), (False, 0), (0, False), (False, 1), (0, True), (True, True), (True, 1), (1, True)):
            self.assertEqual("beside", rules_error((2, (pair,))), pair)

    def test_the_first_word_that_applies(self):
        self.assertEqual("acts", rules_error((7, ((1, 0),))))
        self.assertEqual("acts", rules_error((0, None)))
        self.assertEqual("acts", rules_error((None, [])))
        self.assertEqual("rules", rules_error((7, ((1, 0),), 0)))
        self.assertEqual("rules", rules_error([7, None]))

    def test_what_is_no_pair(self):
        for value in (None, 3, "3", "ab", [], [3, ()], {}, {0: 3, 1: ()}, (), (3,), (3, (), ()), (3, (), None)):
            self.assertEqual("rules", rules_error(value), value)

    def test_values_of_all_kinds(self):
        for value in odd_values():
            is_pair = type(value) is tuple and len(value) == 2
            self.assertEqual("acts" if is_pair else "rules", rules_error(value), value)
            self.assertEqual("rules", rules_error((value,)))
            self.assertEqual("rules", rules_error((3, (), value)))
            self.assertEqual("acts", rules_error((value, ())))
            self.assertEqual("beside", rules_error((3, value)))
            self.assertEqual("beside", rules_error((3, (value,))))
            self.assertEqual("beside", rules_error((3, ((0, 0), value))))
            if is_odd_act(value):
                self.assertEqual("beside", rules_error((6, ((value, 5),))))
                self.assertEqual("beside", rules_error((6, ((0, value),))))

    def test_the_value_stays_as_it_is(self):
        for value in ([3, [[0, 0]]], (3, [[0, 0]]), (3, ([1, 0], {2: [3]})), ({0: [1]}, [2]), [[], {}]):
            before = copy.deepcopy(value)
            rules_error(value)
            self.assertEqual(before, value)


class Against(unittest.TestCase):

    def check(self, rules, lot):
        told = tuple(act for act in range(rules[0]) if not all(may_beside(rules, act, other) for other in lot))
        found = against(rules, lot)
        self.assertEqual(told, found, (rules, lot))
        self.assertIs(tuple, type(found))

    def test_the_examples(self):
        self.assertEqual(((1, 2), ()), (against(R, (0,)), against(R, ())))

    def test_all_lots_of_all_rules_of_few_acts(self):
        for acts in (1, 2, 3):
            for rules in all_rules(acts):
                for lot in all_lots(acts):
                    self.check(rules, lot)

    def test_all_lots_of_drawn_rules(self):
        for rules in drawn_rules(5, 120):
            for lot in all_lots(rules[0]):
                self.check(rules, lot)

    def test_the_empty_lot(self):
        for rules in drawn_rules(6, 60):
            self.assertEqual((), against(rules, ()))

    def test_nothing_beside_and_all_beside(self):
        for acts in range(1, 7):
            for lot in all_lots(acts):
                self.assertEqual(tuple(range(acts)) if lot else (), against((acts, ()), lot))
                self.assertEqual((), against((acts, tuple(act_pairs(acts))), lot))

    def test_an_act_may_be_against_itself(self):
        self.assertEqual((0,), against((2, ((0, 1), (1, 1))), (0,)))
        self.assertEqual((), against((2, ((0, 1), (1, 1))), (1,)))

    def test_against_is_the_same_both_ways(self):
        for rules in drawn_rules(7, 120):
            for act, other in itertools.product(range(rules[0]), repeat=2):
                self.assertEqual(other in against(rules, (act,)), act in against(rules, (other,)), rules)

    def test_calls_do_not_disturb_one_another(self):
        draw = random.Random(8)
        calls = [(rules, lot) for rules in drawn_rules(9, 12) for lot in all_lots(rules[0])]
        first = [against(rules, lot) for rules, lot in calls]
        order = list(range(len(calls)))
        draw.shuffle(order)
        for k in order:
            self.assertEqual(first[k], against(*calls[k]))


if __name__ == "__main__":
    unittest.main()
