"""Promise [8]: meeting and is_meeting."""

import itertools
import random
import unittest

from holdmodes.holds import is_meeting, meeting
from tests.samples import (
    I, R, S, T, X, all_modes, all_rules, changed, drawn_mode, drawn_rules, odd_values, with_odd_parts,
)
from tests.told import told_goes, told_is_meeting


def drawn_pairs(seed, many):
    """Rules of one to six acts and two modes of them, so many times."""
    draw = random.Random(seed)
    return [(rules, drawn_mode(draw, rules[0]), drawn_mode(draw, rules[0])) for rules in drawn_rules(seed, many)]


def apart_pairs(seed, many):
    return [case for case in drawn_pairs(seed, many) if not told_goes(*case)]


class Meeting(unittest.TestCase):

    def check(self, rules, one, other):
        value = meeting(rules, one, other)
        if told_goes(rules, one, other):
            self.assertIsNone(value, (rules, one, other))
        else:
            self.assertIs(True, told_is_meeting(rules, one, other, value), (rules, one, other, value))
            self.assertIs(True, is_meeting(rules, one, other, value), (rules, one, other, value))

    def test_the_modes_of_the_examples(self):
        for one, other in itertools.product((S, X, I, ((), ()), ((0, 1, 2), (0, 1, 2))), repeat=2):
            self.check(R, one, other)

    def test_all_pairs_of_modes_of_few_acts(self):
        for acts in (1, 2):
            for rules in all_rules(acts):
                for one, other in itertools.product(all_modes(acts), repeat=2):
                    self.check(rules, one, other)

    def test_pairs_of_modes_of_up_to_six_acts(self):
        for rules, one, other in drawn_pairs(301, 3000):
            self.check(rules, one, other)
            self.check(rules, other, one)
            self.check(rules, one, one)

    def test_own_against_means_one_way_alone(self):
        rules = (2, ((0, 0), (1, 1)))
        for one, other in ((((0,), (0,)), ((), (1,))), (((), (1,)), ((0,), (0,)))):
            self.assertIsNotNone(meeting(rules, one, other))
            self.check(rules, one, other)


class IsMeeting(unittest.TestCase):

    def check_told(self, rules, one, other, value):
        told = told_is_meeting(rules, one, other, value)
        self.assertIs(told, is_meeting(rules, one, other, value), (rules, one, other, value))
        return told

    def test_the_examples(self):
        self.assertIs(True, is_meeting(R, S, I, ((None, 0), ((0, 0, S), (1, 0, I), (1, 1, X)))))
        self.assertIs(False, is_meeting(R, S, S, ((None,), ((0, 0, S), (1, 0, S)))))

    def test_all_pairs_of_a_small_tree_and_holds(self):
        # Of one act that is against itself, all modes, all holds of 0 and 1 on two things.
        rules = (1, ())
        modes = [None] + all_modes(1)
        places = list(itertools.product((0, 1), (0, 1)))
        found = 0
        for held in itertools.product(modes, repeat=4):
            holds = tuple(place + (mode,) for place, mode in zip(places, held) if mode is not None)
            for tree in ((None,), (None, 0)):
                for one, other in itertools.product(all_modes(1), repeat=2):
                    found += self.check_told(rules, one, other, (tree, holds))
        self.assertGreater(found, 5)

    def test_none_is_one_of_modes_that_go(self):
        modes = [None] + all_modes(2)
        for rules in all_rules(2):
            pairs = [pair for pair in itertools.product(all_modes(2), repeat=2) if told_goes(rules, *pair)]
            for one, other in random.Random(302).sample(pairs, min(len(pairs), 12)):
                for mode, with_mode in itertools.product(modes, repeat=2):
                    holds = [(0, 0, one), (0, 1, mode), (1, 0, other), (1, 1, with_mode)]
                    value = ((None, 0), tuple(hold for hold in holds if hold[2] is not None))
                    self.assertIs(False, is_meeting(rules, one, other, value))

    def test_a_meeting_on_one_thing(self):
        for one, other in ((S, X), (X, S), (X, X), (((0,), (0, 1)), X)):
            self.assertIs(True, is_meeting(R, one, other, ((None,), ((0, 0, one), (1, 0, other)))))
        # These do not go, but nobody does anything yet.
        for one, other in ((S, I), (I, S)):
            self.assertIs(False, is_meeting(R, one, other, ((None,), ((0, 0, one), (1, 0, other)))))

    def test_both_may_hold_the_second_thing(self):
        both = ((0, 2), (0, 2))
        free = (3, ((0, 0), (0, 2), (2, 2)))
        value = (None, 0), ((0, 0, both), (0, 1, S), (1, 0, X), (1, 1, ((), ())))
        self.assertIs(True, is_meeting(free, both, X, value))
        # On the second thing the modes have to go.
        value = (None, 0), ((0, 0, both), (0, 1, S), (1, 0, X), (1, 1, X))
        self.assertIs(False, is_meeting(free, both, X, value))
        value = (None, 0), ((0, 0, both), (0, 1, S), (1, 0, X), (1, 1, I))
        self.assertIs(False, is_meeting(free, both, X, value))

    def test_what_is_held_around_has_to_be_meant(self):
        self.assertIs(False, is_meeting(R, S, I, ((None, 0), ((0, 0, S), (1, 0, I), (1, 1, ((0, 1), (0, 1)))))))
        self.assertIs(False, is_meeting(R, S, I, ((None, 0), ((0, 0, S), (1, 0, I), (1, 1, ((1,), (1, 2)))))))

    def test_meetings_told_changed(self):
        for rules, one, other in apart_pairs(303, 240):
            tree, holds = meeting(rules, one, other)
            draw = random.Random(len(holds))
            for at, (holder, thing, mode) in enumerate(holds):
                ahead, behind = holds[:at], holds[at + 1:]
                self.check_told(rules, one, other, (tree, ahead + behind))
                for with_mode in ([drawn_mode(draw, rules[0]) for _ in range(6)] + [one, other, ((), ())]):
                    self.check_told(rules, one, other, (tree, ahead + ((holder, thing, with_mode),) + behind))
                for holder_then, thing_then in itertools.product(range(4), range(2)):
                    moved = tuple(sorted(ahead + ((holder_then, thing_then, mode),) + behind))
                    self.check_told(rules, one, other, (tree, moved))
            for holder, thing in itertools.product(range(4), range(2)):
                put_in = tuple(sorted(holds + ((holder, thing, drawn_mode(draw, rules[0])),)))
                self.check_told(rules, one, other, (tree, put_in))

    def test_a_third_holder(self):
        for rules, one, other in apart_pairs(304, 60):
            tree, holds = meeting(rules, one, other)
            for holder in (2, 3):
                self.assertIs(False, is_meeting(rules, one, other, (tree, holds + ((holder, 0, ((), ())),))))

    def test_another_tree(self):
        for rules, one, other in apart_pairs(305, 60):
            tree, holds = meeting(rules, one, other)
            for other_tree in ((None,), (None, 0), (None, 0, 0), (None, 0, 1), T, (None, 1), (0, 0), (), [None, 0],
                               (None, False), (None, None), None):
                self.check_told(rules, one, other, (other_tree, holds))
            for other_tree in ((None, 0, 0), (None, 0, 1), (None,) + (0,) * 11):
                self.assertIs(False, is_meeting(rules, one, other, (other_tree, holds)))

    def test_other_modes_than_the_two(self):
        draw = random.Random(306)
        for rules, one, other in apart_pairs(307, 240):
            value = meeting(rules, one, other)
            self.check_told(rules, other, one, value)
            for _ in range(6):
                mode = drawn_mode(draw, rules[0])
                self.check_told(rules, mode, other, value)
                self.check_told(rules, one, mode, value)
        value = meeting(R, S, I)
        self.assertIs(False, is_meeting(R, I, S, value))

    def test_meetings_with_one_part_changed(self):
        for rules, one, other in apart_pairs(308, 40):
            for value in changed(meeting(rules, one, other)):
                self.check_told(rules, one, other, value)

    def test_values_of_all_kinds(self):
        for one, other in ((S, I), (X, X), (S, S)):
            for odd in odd_values():
                for value in with_odd_parts(((None, 0), ((0, 0, one), (1, 0, other), (1, 1, X))), odd):
                    self.check_told(R, one, other, value)
        self.assertIs(False, is_meeting(R, S, I, None))


if __name__ == "__main__":
    unittest.main()
