"""Promise [27]: stuck, the first one of the shortest runs behind which courses are stuck."""

import itertools
import random
import unittest

from holdmodes.courses import is_run, straightened, stuck
from tests.drawn import course_cases, drawn_courses, tangled_cases
from tests.samples import R, S, X, act_pairs, all_modes, all_rules, drawn_mode
from tests.told import told_is_run, told_is_stuck, told_stuck, told_stuck_by_states

K = (((0, S), (1, X)), ((1, S), (0, X)))
NONE = ((), ())


class Stuck(unittest.TestCase):

    def check(self, told, rules, courses):
        found = stuck(rules, courses)
        self.assertEqual(told, found, (rules, courses))
        self.assertTrue(found is None or type(found) is tuple and all(type(holder) is int for holder in found))
        return found

    def check_states(self, rules, courses):
        return self.check(told_stuck_by_states(rules, courses), rules, courses)

    def test_the_examples(self):
        self.check((0, 1), R, K)
        self.check(None, R, K[:1])
        self.check(None, R, straightened(K))
        self.check((0, 1), R, (((0, S), (0, X)), ((0, S), (0, X))))

    def test_all_runs_of_small_courses(self):
        found = []
        for rules, courses, _ in tangled_cases(1701, 360, 3, 3) + course_cases(1711, 120, 3, 3, 2):
            found.append(self.check(told_stuck(rules, courses), rules, courses))
            self.assertEqual(found[-1], told_stuck_by_states(rules, courses))
        self.assertGreater(len([run for run in found if run]), 70)
        self.assertGreater(len(set(found)), 15)

    def test_all_runs_of_two_holders(self):
        for rules, courses, _ in tangled_cases(1702, 240, 2, 5):
            self.check(told_stuck(rules, courses), rules, courses)

    def test_all_runs_of_four_holders(self):
        for rules, courses, _ in tangled_cases(1703, 120, 4, 2):
            self.check(told_stuck(rules, courses), rules, courses)

    def test_all_courses_of_two_holders_of_one_act(self):
        steps = list(itertools.product((0, 1), all_modes(1)))
        for rules in all_rules(1):
            for one, other in itertools.product(itertools.product(steps, repeat=2), repeat=2):
                self.check(told_stuck(rules, (one, other)), rules, (one, other))

    def test_state_by_state(self):
        found = []
        for rules, courses, _ in tangled_cases(1704, 240) + course_cases(1714, 60, 4, 5):
            found.append(self.check_states(rules, courses))
        self.assertGreater(min(found.count(None), len(found) - found.count(None)), 80)
        self.assertGreater(len(set(found)), 80)

    def test_four_holders_with_eight_steps_each(self):
        draw = random.Random(1705)
        found = []
        for k in range(12):
            acts = k % 6 + 1
            rules = (acts, tuple(pair for pair in act_pairs(acts) if draw.random() < (0.5, 0.8, 0.95)[k % 3]))
            things = draw.randint(2, 12)
            steps = [(draw.randrange(things), draw.choice((drawn_mode(draw, acts), NONE, NONE))) for _ in range(32)]
            courses = tuple(tuple(steps[at:at + 8]) for at in (0, 8, 16, 24))
            found.append(self.check_states(rules, courses))
        self.assertIn(None, found)
        self.assertGreater(max(len(run or ()) for run in found), 8)

    def test_courses_that_are_stuck_behind_no_run(self):
        every = (6, tuple(act_pairs(6)))
        draw = random.Random(1706)
        for _ in range(12):
            self.check(None, every, drawn_courses(draw, 6))
        eight = tuple((thing, X) for thing in range(8))
        for many in range(1, 5):
            self.check(None, R, (eight,) * many)
            self.check(None, R, (((0, S),) * 8,) * many)
        # The longest runs there are: nobody has anything in the way of another.
        apart = tuple(tuple(((8 * holder + k) % 12, S) for k in range(8)) for holder in range(4))
        self.check(None, R, apart)

    def test_the_shortest_one(self):
        # One that reads the thing 0 three times more gets stuck as soon as both have read it.
        for more in range(5):
            courses = (((5, NONE),) * more + ((0, S), (0, X)), ((0, S), (0, X)))
            self.check((0,) * (more + 1) + (1,), R, courses)
            self.check((0,) + (1,) * (more + 1), R, courses[::-1])

    def test_the_first_one_of_them(self):
        one = ((0, S), (0, X))
        for many in (2, 3, 4):
            self.check((0, 1) + tuple(range(2, many)), R, (one,) * many)
        # The first two are stuck alone, but for a third one that can still do its step.
        self.check((0, 1, 2), R, (one, one, ((1, X),)))
        self.check((0, 1, 2), R, (one, ((1, X),), one))
        self.check((0, 1, 2), R, (((1, X),), one, one))
        self.check((0, 0, 1, 2), R, (((1, X), (1, X)), one, one))

    def test_a_ring_of_holders(self):
        for many in (2, 3, 4):
            courses = tuple(((holder, X), ((holder + 1) % many, X)) for holder in range(many))
            self.check(tuple(range(many)), R, courses)
            self.check_states(R, courses)
            # Turned about, and with one that takes its things in the order of the others.
            self.check(tuple(range(many)), R, courses[::-1])
            straight = courses[:-1] + (courses[-1][::-1],)
            self.check(None, R, straight)

    def test_long_runs(self):
        # Seven steps that go with all, then one each that the other one bars by its seventh.
        row = tuple((thing, S) for thing in range(6))
        courses = (row + ((6, X), (7, X)), row + ((7, X), (6, X)))
        found = self.check_states(R, courses)
        self.assertEqual((0,) * 7 + (1,) * 7, found)

    def test_a_run_told_is_one_and_is_stuck(self):
        found = 0
        for rules, courses, _ in tangled_cases(1707, 240):
            run = stuck(rules, courses)
            if run is not None:
                found += 1
                self.assertTrue(is_run(rules, courses, run) and told_is_run(rules, courses, run))
                self.assertTrue(told_is_stuck(rules, courses, run))
                self.assertFalse([at for at in range(len(run)) if told_is_stuck(rules, courses, run[:at])])
        self.assertGreater(found, 60)


if __name__ == "__main__":
    unittest.main()
