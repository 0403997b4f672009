"""Promises [12] and [13]: ups, unjoined, are_raises, standoff and is_standoff."""

import itertools
import random
import unittest

from holdmodes.raising import are_raises, is_standoff, standoff, unjoined, ups
from tests.drawn import raise_cases, ring
from tests.samples import I, R, S, X, act_pairs, all_modes, changed, drawn_mode, drawn_modes, odd_values, with_odd_parts
from tests.told import told_are_raises, told_is_standoff, told_standoff, told_unjoined, told_ups

U = ((0,), (0, 1))
BOTH = ((0, 1), (0, 1))


class Ups(unittest.TestCase):

    def check(self, modes, at, wish):
        found = ups(modes, at, wish)
        self.assertEqual(told_ups(modes, at, wish), found, (modes, at, wish))
        self.assertIs(tuple, type(found))

    def test_the_example(self):
        self.assertEqual((3,), ups((S, X, I, U), 0, I))

    def test_all_wishes_of_drawn_modes(self):
        draw = random.Random(601)
        for k in range(150):
            acts = k % 6 + 1
            modes = drawn_modes(draw, acts, 12)
            for at in range(len(modes)):
                for wish in modes + tuple(drawn_mode(draw, acts) for _ in range(3)):
                    self.check(modes, at, wish)

    def test_all_modes_of_two_acts(self):
        modes = tuple(all_modes(2))
        for at, wish in itertools.product(range(9), modes):
            self.check(modes, at, wish)
            self.check(modes[::-1], at, wish)

    def test_none_and_more_than_one(self):
        self.assertEqual((), ups((S, X, I), 0, I))
        self.assertEqual((1,), ups((S, X, I), 2, X))
        self.assertEqual((0,), ups((S, X, I), 0, ((), ())))
        one, other = ((0,), (0, 1, 2)), ((0, 2), (0, 1, 2))
        self.assertEqual((2, 3), ups((S, I, ((0, 1), (0, 1)), ((0,), (0, 1, 3))), 0, I))
        self.assertEqual((2,), ups((S, I, one, other), 0, I))
        self.assertEqual((3,), ups((S, I, other, one), 0, I))


class Unjoined(unittest.TestCase):

    def test_the_example(self):
        self.assertEqual((0, 1), unjoined((S, X, I, U)))

    def test_drawn_modes(self):
        draw = random.Random(602)
        for k in range(300):
            modes = drawn_modes(draw, k % 6 + 1, 12)
            self.assertEqual(told_unjoined(modes), unjoined(modes), modes)

    def test_all_sets_of_three_modes_of_two_acts(self):
        for modes in itertools.permutations(all_modes(2), 3):
            self.assertEqual(told_unjoined(modes), unjoined(modes), modes)

    def test_modes_that_are_joined(self):
        self.assertIsNone(unjoined((S,)))
        self.assertIsNone(unjoined((S, U, I)))
        self.assertIsNone(unjoined((S, X, I, U, BOTH)))
        self.assertIsNone(unjoined(tuple(all_modes(2))))
        self.assertIsNone(unjoined((((), ()), S, BOTH)))

    def test_one_is_too_few_and_two_are_too_many(self):
        self.assertEqual((0, 1), unjoined((S, I)))
        self.assertEqual((0, 1), unjoined((S, I, ((0, 1), (0, 1)), ((0,), (0, 1, 2)))))
        self.assertEqual((1, 2), unjoined((((), ()), S, I)))
        self.assertEqual((0, 3), unjoined((S, I, U, ((3,), (3,)))))


class AreRaises(unittest.TestCase):

    def check(self, told, modes, value):
        self.assertIs(told, are_raises(modes, value), (modes, value))

    def check_told(self, modes, value):
        self.check(told_are_raises(modes, value), modes, value)

    def test_the_example(self):
        self.check(True, (S, BOTH), ((0, 1),))

    def test_drawn_raises(self):
        for rules, modes, raises, draw in raise_cases(611, 300):
            self.check(True, modes, raises)
            self.check(True, modes, raises[::-1])
            self.check(False, modes, raises + raises[:1])
            self.check(False, modes, tuple(pair[::-1] for pair in raises))

    def test_all_pairs_of_modes(self):
        for one, other in itertools.permutations(all_modes(2), 2):
            for value in itertools.product(range(-1, 3), repeat=2):
                self.check_told((one, other), (value,))

    def test_numbers_of_raises(self):
        modes = tuple(((), tuple(range(many))) for many in range(6))
        pairs = [(i, j) for i in range(6) for j in range(i + 1, 6)]
        for many in range(1, 9):
            self.check(True, modes, tuple(pairs[-many:]))
            self.check(True, modes, tuple(pairs[many - 1::-1]))
        for many in range(9, 16):
            self.check(False, modes, tuple(pairs[:many]))
        self.check(False, modes, ())
        self.check(False, modes, ((0, 1),) * 2)
        self.check(False, modes, ((0, 1), (0, 2), (0, 1)))

    def test_wrong_values(self):
        modes = (S, BOTH, I)
        self.check(True, modes, ((2, 1), (0, 1)))
        for value in (None, 0, "", "01", [], [(0, 1)], ([0, 1],), ((0, 1), [2, 1]), ((0, 1, 1),), ((0,),), ((),), (0, 1),
                      ((0, 0),), ((1, 1),), ((1, 0),), ((0, 2),), ((2, 0),), ((0, 3),), ((3, 1),), ((-1, 1),), ((0, -2),),
                      ((False, True),), ((0, True),), ((False, 1),), (("0", "1"),), ((0, None),), {(0, 1): 0}, ((0, 1), ()),
                      (((0, 1),),)):
            self.check(False, modes, value)

    def test_raises_with_one_part_changed(self):
        for rules, modes, raises, draw in raise_cases(612, 60):
            for value in changed(raises):
                self.check_told(modes, value)

    def test_values_of_all_kinds(self):
        for odd in odd_values():
            for value in with_odd_parts(((0, 1), (2, 1)), odd):
                self.check_told((S, BOTH, I), value)


class Standoff(unittest.TestCase):

    def check(self, rules, modes, raises, most):
        """Against all rows of at most so many holders, of which the shortest one has to be, if there is one."""
        found = standoff(rules, modes, raises)
        told = told_standoff(rules, modes, raises, most)
        if told is not None or found is None:
            self.assertEqual(told, found, (rules, modes, raises))
        else:
            self.assertGreater(len(found), most)
            self.assertTrue(told_is_standoff(rules, modes, raises, found))
        return found

    def test_the_examples(self):
        self.assertEqual((0, 0), standoff(R, (S, BOTH), ((0, 1),)))
        self.assertEqual((0, 0), standoff(R, (I, X), ((0, 1),)))

    def test_all_rows_of_up_to_four_holders(self):
        found = {self.check(*case[:3], 4) for case in raise_cases(621, 250, 12, 5)}
        self.assertGreater(len(found), 8)

    def test_all_rows_of_up_to_four_holders_of_more_raises(self):
        for case in raise_cases(622, 60, 12, 8):
            self.check(*case[:3], 3)

    def test_rings_of_two_to_six_holders(self):
        draw = random.Random(623)
        for many in range(2, 7):
            for _ in range(12):
                rules, modes, raises, told = ring(draw, many)
                self.assertEqual(many, len(told))
                self.assertTrue(told_is_standoff(rules, modes, raises, told))
                self.assertEqual(told, standoff(rules, modes, raises), (rules, modes, raises))

    def test_rings_are_the_shortest(self):
        draw = random.Random(624)
        for many in range(2, 6):
            rules, modes, raises, told = ring(draw, many)
            self.assertEqual(told, told_standoff(rules, modes, raises, many))

    def test_rings_with_more_raises(self):
        draw = random.Random(625)
        for many in range(2, 7):
            for _ in range(8):
                rules, modes, raises, told = ring(draw, many, 2)
                found = self.check(rules, modes, raises, 4 if many < 5 else 3)
                self.assertLessEqual(len(found), many)

    def test_a_ring_with_one_raise_left_out_stands_off_no_more(self):
        draw = random.Random(626)
        for many in range(2, 7):
            rules, modes, raises, _ = ring(draw, many)
            for at in range(many):
                left = raises[:at] + raises[at + 1:]
                if left:
                    self.assertIsNone(standoff(rules, modes, left))

    def test_none_of_raises_whose_modes_do_not_go(self):
        # Each waits for itself, but no two can hold these modes.
        rules = (2, ((0, 1), (1, 1)))
        modes = (((0,), (0,)), ((0, 1), (0, 1)))
        self.assertIsNone(standoff(rules, modes, ((0, 1),)))
        # X and what covers it do not go with themselves.
        self.assertIsNone(standoff(R, (X, BOTH, ((0, 1, 2), (0, 1, 2))), ((0, 1), (0, 2), (1, 2))))

    def test_none_where_all_goes(self):
        every = tuple(act_pairs(6))
        for rules, modes, raises, _ in raise_cases(627, 60):
            self.assertIsNone(standoff((6, every), modes, raises))

    def test_one_that_waits_for_itself_beside_one_that_waits_for_none(self):
        rules = (3, ((0, 0), (0, 1), (0, 2), (1, 2), (2, 2)))
        modes = (((), (0,)), ((0,), (0,)), ((), (1,)), ((1,), (1,)), ((), (2,)), ((2,), (2,)))
        self.assertEqual((1, 1), standoff(rules, modes, ((0, 1), (2, 3), (4, 5))))
        self.assertEqual((2, 2), standoff(rules, modes, ((0, 1), (4, 5), (2, 3))))
        self.assertIsNone(standoff(rules, modes, ((0, 1), (4, 5))))

    def test_the_first_of_the_shortest(self):
        # All hold I and ask for what writes: each waits for each.
        modes = (I, X, BOTH, ((1, 2), (1, 2)))
        self.assertEqual((0, 0), standoff(R, modes, ((0, 1), (0, 2), (0, 3))))
        # What holds S and what holds U, which does not go with itself.
        modes = (S, U, BOTH)
        rules = (2, ((0, 0),))
        self.assertEqual((0, 0), standoff(rules, modes, ((0, 2), (1, 2))))
        self.assertEqual(told_standoff(rules, modes, ((1, 2), (0, 2)), 4), standoff(rules, modes, ((1, 2), (0, 2))))
        self.assertEqual((1, 1), standoff(rules, modes, ((1, 2), (0, 2))))


class IsStandoff(unittest.TestCase):

    def check_told(self, rules, modes, raises, value):
        told = told_is_standoff(rules, modes, raises, value)
        self.assertIs(told, is_standoff(rules, modes, raises, value), (rules, modes, raises, value))
        return told

    def test_the_example(self):
        self.assertIs(True, is_standoff(R, (S, BOTH), ((0, 1),), (0, 0, 0)))

    def test_all_rows_of_up_to_four_holders(self):
        found = 0
        for rules, modes, raises, _ in raise_cases(631, 60, 12, 4):
            for many in range(5):
                for row in itertools.product(range(len(raises)), repeat=many):
                    found += self.check_told(rules, modes, raises, row)
        self.assertGreater(found, 50)

    def test_rings_and_what_is_like_them(self):
        draw = random.Random(632)
        for many in range(2, 7):
            for _ in range(4):
                rules, modes, raises, told = ring(draw, many, 1)
                for row in (told * 2, told * 4, told + told[:1], told[:-1], told[1:], told[::-1], told[:2] + told):
                    self.check_told(rules, modes, raises, row)
                self.assertIs(True, is_standoff(rules, modes, raises, told * 3))
                for value in changed(told):
                    self.check_told(rules, modes, raises, value)

    def test_modes_held_twice_have_to_go_with_themselves(self):
        # 0 waits for itself, and so does 1; 0 holds what does not go with itself.
        rules = (2, ((0, 0),))
        modes, raises = (U, BOTH, S), ((0, 1), (2, 1))
        self.assertIs(False, is_standoff(rules, modes, raises, (0, 0)))
        self.assertIs(True, is_standoff(rules, modes, raises, (1, 1)))
        for row in itertools.product((0, 1), repeat=4):
            self.check_told(rules, modes, raises, row)

    def test_one_holder_is_too_few(self):
        for value in ((), (0,), 0):
            self.assertIs(False, is_standoff(R, (S, BOTH), ((0, 1),), value))

    def test_many_holders(self):
        for many in (2, 3, 5, 12, 100, 10000):
            self.assertIs(True, is_standoff(R, (S, BOTH), ((0, 1),), (0,) * many))
        draw = random.Random(633)
        rules, modes, raises, told = ring(draw, 6)
        self.assertIs(True, is_standoff(rules, modes, raises, told * 1600))
        self.assertIs(False, is_standoff(rules, modes, raises, told * 1600 + told[:1]))

    def test_wrong_values(self):
        for value in (None, "00", [0, 0], (0, 1), (0, -1), (-1, -1), (1, 1), (False, False), (0, False), (0, "0"), (0, None),
                      ((0,), (0,)), ((0, 0),), {0: 0}, (0, 0, ()), (0, 10 ** 39)):
            self.assertIs(False, is_standoff(R, (S, BOTH), ((0, 1),), value), value)

    def test_values_of_all_kinds(self):
        for odd in odd_values():
            for value in with_odd_parts((0, 0, 0), odd):
                self.check_told(R, (S, BOTH), ((0, 1),), value)


if __name__ == "__main__":
    unittest.main()
