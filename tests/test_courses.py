"""Promises [26], [27] and [28]: are_courses, is_run, waits, is_straight and straightened."""

import itertools
import random
import unittest

from holdmodes.courses import are_courses, is_run, is_straight, straightened, waits
from tests.drawn import course_cases, drawn_courses, drawn_run, tangled_cases
from tests.samples import I, R, S, X, act_pairs, all_modes, all_rules, changed, odd_values, with_odd_parts
from tests.told import (
    told_all_runs, told_are_courses, told_is_run, told_is_straight, told_next, told_straightened, told_waits,
)

K = (((0, S), (1, X)), ((1, S), (0, X)))
NONE = ((), ())


class AreCourses(unittest.TestCase):

    def check(self, told, rules, value):
        self.assertIs(told, are_courses(rules, value), (rules, value))

    def check_told(self, rules, value):
        self.check(told_are_courses(rules, value), rules, value)

    def test_the_example(self):
        self.check(True, R, K)

    def test_drawn_courses(self):
        for rules, courses, _ in course_cases(1601, 360):
            self.check(True, rules, courses)
            self.check(True, rules, courses[::-1])

    def test_one_to_four_of_one_to_eight_steps(self):
        for many, steps in itertools.product(range(7), range(11)):
            self.check(1 <= many <= 4 and 1 <= steps <= 8, R, (((0, S),) * steps,) * many)
        for at in range(4):
            courses = (((0, S),),) * at + ((),) + (((0, S),),) * (3 - at)
            self.check(False, R, courses)
            self.check(False, R, courses[:at] + (((0, S),) * 9,) + courses[at + 1:])

    def test_each_thing(self):
        for thing in range(-2, 15):
            self.check(0 <= thing <= 11, R, (((thing, S),),))
            self.check(0 <= thing <= 11, R, (((0, S),), ((11, X), (thing, S))))

    def test_each_mode_of_the_rules(self):
        for acts in range(1, 7):
            for mode in all_modes(6)[::3]:
                self.check_told((acts, ()), (((0, S), (3, mode)),))

    def test_wrong_values(self):
        for value in (None, 0, "", "0", (), [], {}, (()), ((),), ((), ()), S, (S,), ((S,),), (((0, S), ()),),
                      (((0,),),), (((0, S, S),),), (((S, 0),),), ((0, S),), (((0, 0),),), (((None, S),),),
                      ((("0", S),),), (((0, None),),), (((True, S),),), (((False, S),),), (([0, S],),), ([(0, S)],),
                      [((0, S),)], (((0, list(S)),),), (((0, ((0,), ())),),), (((0, ((0, 0), (0,))),),),
                      (((0, ((3,), (3,))),),), (((0, ((True,), (True,))),),), {0: ((0, S),)}, (((0, S),), None),
                      (((0, S),), 0), ((((0, S),),),), (((-1, S),),), (((12, S),),), (((10 ** 39, S),),),
                      (((0, S),), ((0, S), [0, S]))):
            self.check(False, R, value)

    def test_courses_with_one_part_changed(self):
        for rules, courses, draw in course_cases(1602, 36, 3, 4):
            for value in changed(courses):
                self.check_told(rules, value)

    def test_values_of_all_kinds(self):
        for odd in odd_values():
            for value in with_odd_parts((((0, S), (11, X)), ((1, S),)), odd):
                self.check_told(R, value)


class IsRun(unittest.TestCase):

    def check(self, rules, courses, value):
        told = told_is_run(rules, courses, value)
        self.assertIs(told, is_run(rules, courses, value), (rules, courses, value))
        return told

    def test_the_examples(self):
        self.assertEqual((True, False), (is_run(R, K, (0, 0, 1, 1)), is_run(R, K, (0, 1, 0))))

    def test_all_short_rows_of_small_courses(self):
        found = 0
        for rules, courses, _ in tangled_cases(1611, 30, 3, 3) + course_cases(1611, 48, 3, 3, 2):
            for many in range(5):
                for row in itertools.product(range(len(courses)), repeat=many):
                    found += self.check(rules, courses, row)
        self.assertGreater(found, 300)

    def test_all_runs(self):
        for rules, courses, _ in tangled_cases(1612, 10, 3, 3):
            for run in told_all_runs(rules, courses):
                self.assertIs(True, is_run(rules, courses, run), (rules, courses, run))

    def test_drawn_runs_of_up_to_four_holders(self):
        for rules, courses, draw in tangled_cases(1613, 30) + course_cases(1613, 12):
            run = drawn_run(draw, courses, lambda row: told_next(rules, courses, row))
            self.assertIs(True, is_run(rules, courses, run))
            for at in range(len(run) + 1):
                holder = draw.randrange(4)
                self.check(rules, courses, run[:at] + (holder,) + run[at:])
                self.check(rules, courses, run[:at] + run[at + 1:])
                self.check(rules, courses, run[:at] + (holder,) + run[at + 1:])
                self.assertIs(True, is_run(rules, courses, run[:at]))

    def test_the_empty_one(self):
        for rules, courses, _ in course_cases(1614, 60):
            self.assertIs(True, is_run(rules, courses, ()))

    def test_behind_the_end(self):
        for steps in range(1, 9):
            courses = (((0, S),) * steps, ((0, S),) * 3)
            for many in range(12):
                self.assertIs(many <= steps, is_run(R, courses, (0,) * many))
                self.assertIs(many <= steps, is_run(R, courses, (1, 1, 1) + (0,) * many))
        self.assertIs(False, is_run(R, (((0, S),),), (0,) * 10000))
        self.assertIs(False, is_run(R, K, (0, 0, 1, 1, 0)))
        self.assertIs(False, is_run(R, K, (0, 0, 1, 1, 1)))

    def test_each_of_many_holders_to_its_end(self):
        every = (6, tuple(act_pairs(6)))
        draw = random.Random(1615)
        for _ in range(30):
            courses = drawn_courses(draw, 6)
            row = [holder for holder, course in enumerate(courses) for _ in course]
            draw.shuffle(row)
            self.assertIs(True, is_run(every, courses, tuple(row)))
            self.assertIs(False, is_run(every, courses, tuple(row + row[:1])))

    def test_holders_that_there_are_not(self):
        for holder in (-1, 2, 3, 4, 99, 10 ** 39, None, "0", "", (), (0,), [0], True, False, {}):
            for value in ((holder,), (0, holder), (holder, 0), (0, 0, holder), (0, 0, 1, 1, holder)):
                self.assertIs(False, is_run(R, K, value), value)

    def test_wrong_values(self):
        for value in (None, 0, 1, "", "01", [], [0, 0], {}, {0: 0}, ((),), ((0, 0, 1, 1),), (0, 0, [1]), True, False,
                      ((0,), (1,))):
            self.assertIs(False, is_run(R, K, value), value)

    def test_runs_with_one_part_changed(self):
        for rules, courses, draw in course_cases(1616, 60, 4, 4):
            for value in changed(drawn_run(draw, courses, lambda row: told_next(rules, courses, row))):
                self.check(rules, courses, value)

    def test_values_of_all_kinds(self):
        for odd in odd_values():
            for value in with_odd_parts((0, 0, 1, 1), odd):
                self.check(R, K, value)


class Waits(unittest.TestCase):

    def check(self, rules, courses, run):
        found = waits(rules, courses, run)
        self.assertEqual(told_waits(rules, courses, run), found, (rules, courses, run))
        self.assertTrue(type(found) is tuple and all(type(pair) is tuple for pair in found))
        return len(found)

    def test_the_example(self):
        self.assertEqual(((0, 1), (1, 0)), waits(R, K, (0, 1)))

    def test_all_runs_of_small_courses(self):
        found = 0
        for rules, courses, _ in tangled_cases(1621, 10, 3, 3) + course_cases(1621, 18, 3, 3, 2):
            for run in told_all_runs(rules, courses):
                found += self.check(rules, courses, run)
        self.assertGreater(found, 150)

    def test_all_courses_of_two_steps_of_one_act(self):
        modes = all_modes(1)
        steps = list(itertools.product((0, 1), modes))
        for rules in all_rules(1):
            for first, second, third in itertools.product(steps, repeat=3):
                courses = ((first, second), (third,))
                for run in told_all_runs(rules, courses):
                    self.check(rules, courses, run)

    def test_drawn_runs_of_up_to_four_holders(self):
        found = []
        for rules, courses, draw in tangled_cases(1622, 60) + course_cases(1622, 24):
            run = drawn_run(draw, courses, lambda row: told_next(rules, courses, row))
            for at in range(len(run) + 1):
                found.append(self.check(rules, courses, run[:at]))
        self.assertLessEqual({0, 1, 2, 3, 4, 5}, set(found))

    def test_holders_alone_wait_for_nobody(self):
        for rules, courses, _ in course_cases(1623, 60, 1):
            for many in range(len(courses[0]) + 1):
                self.assertEqual((), waits(rules, courses, (0,) * many))

    def test_nobody_waits_at_first_or_at_the_end(self):
        for rules, courses, _ in course_cases(1624, 120):
            self.assertEqual((), waits(rules, courses, ()))
            # One behind the other each does all its steps.
            row = tuple(holder for holder, course in enumerate(courses) for _ in course)
            self.assertIs(True, is_run(rules, courses, row))
            self.assertEqual((), waits(rules, courses, row))

    def test_who_has_done_all_steps_gives_all_back(self):
        courses = (((0, X), (1, X)), ((0, S), (2, S)))
        self.assertEqual(((1, 0),), waits(R, courses, (0,)))
        self.assertEqual((), waits(R, courses, (0, 0)))
        self.assertEqual((True, False), (is_run(R, courses, (0, 0, 1)), is_run(R, courses, (0, 1))))
        # One step alone is done and given back at once.
        self.assertEqual((), waits(R, (((0, X),), ((0, X),)), (0,)))
        self.assertIs(True, is_run(R, (((0, X),), ((0, X),)), (0, 1)))

    def test_the_wish_is_joined_with_what_it_has(self):
        # 1 reads the thing 0; 0 has read there and wants to add there: what it would have reads and adds.
        courses = (((0, ((2,), (2,))), (0, S), (1, S)), ((0, ((2,), (2,))), (1, S)))
        self.assertEqual(((0, 1),), waits(R, courses, (0, 1)))
        self.assertEqual((), waits(R, courses, (0,)))
        courses = (((0, S), (0, NONE), (1, S)), ((0, I), (1, S)))
        self.assertEqual(((1, 0),), waits(R, courses, (0, 0)))

    def test_a_hold_without_acts_is_waited_for_by_nobody(self):
        courses = (((0, NONE), (1, X)), ((0, X), (1, X)))
        self.assertEqual((), waits((3, ()), courses, (0,)))
        self.assertEqual((), waits((3, ()), courses, (0, 1)))

    def test_things_around_do_not_matter(self):
        # In any tree the thing 1 stands within the thing 0.
        courses = (((0, X), (2, S)), ((1, X), (2, S)))
        self.assertEqual((), waits(R, courses, (0,)))
        self.assertEqual((), waits(R, courses, (0, 1)))


class Straight(unittest.TestCase):

    def check(self, courses):
        found = is_straight(courses)
        self.assertIs(told_is_straight(courses), found, courses)
        rows = straightened(courses)
        self.assertEqual(told_straightened(courses), rows, courses)
        self.assertIs(True, is_straight(rows))
        self.assertEqual(rows, straightened(rows))
        parts = [part for course in rows for step in course for part in (rows, course, step, step[1])]
        self.assertEqual({tuple}, {type(part) for part in parts})
        return found

    def test_the_examples(self):
        self.assertIs(False, is_straight(K))
        self.assertEqual((((0, S), (1, X)), ((0, X), (1, S))), straightened(K))

    def test_drawn_courses(self):
        found = []
        for rules, courses, _ in course_cases(1631, 360) + course_cases(1632, 360, 4, 3):
            found.append(self.check(courses))
            self.assertIs(True, are_courses(rules, straightened(courses)))
        self.assertGreater(min(found.count(True), found.count(False)), 60)

    def test_all_rows_of_things(self):
        for many in range(1, 5):
            for things in itertools.product(range(4), repeat=many):
                course = tuple((thing, S) for thing in things)
                for courses in ((course,), (course, ((0, X),)), (((0, X), (1, X)), course)):
                    self.check(courses)

    def test_a_thing_twice_is_not_straight(self):
        self.assertIs(False, is_straight((((0, S), (0, X)),)))
        self.assertIs(False, is_straight((((0, S), (0, S)),)))
        self.assertIs(False, is_straight((((0, S), (1, S), (1, S)),)))
        self.assertIs(True, is_straight((((0, S), (1, S), (11, S)), ((0, X),))))
        self.assertIs(False, is_straight((((0, S), (1, S)), ((1, X), (0, X)))))

    def test_straight_courses_stay_as_they_are(self):
        for _, courses, _ in course_cases(1633, 360, 4, 2):
            self.assertIs(is_straight(courses), straightened(courses) == courses)

    def test_the_modes_of_a_thing_are_joined(self):
        course = (5, S), (2, X), (5, I), (5, ((2,), (2,))), (2, I), (11, NONE)
        self.assertEqual((((2, X), (5, ((0, 2), (0, 1, 2))), (11, NONE)),), straightened((course,)))
        self.assertEqual((((2, X), (5, ((0, 2), (0, 1, 2))), (11, NONE)),), straightened((course[::-1],)))


if __name__ == "__main__":
    unittest.main()
