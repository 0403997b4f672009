"""Promise [7]: are_holds, fault, may and clash."""

import itertools
import unittest

from holdmodes.holds import are_holds, clash, fault, may
from tests.drawn import fair_holds, tree_cases
from tests.samples import (
    I, R, S, T, X, all_modes, all_rules, all_trees, changed, drawn_holds, drawn_mode, odd_values, with_odd_parts,
)
from tests.told import (
    told_are_holds, told_around, told_bars, told_clash, told_fault, told_goes, told_lacks, told_may,
)


def small_holds(acts, things):
    """All holds of two holders on so many things."""
    places = list(itertools.product(range(2), range(things)))
    for modes in itertools.product([None] + all_modes(acts), repeat=len(places)):
        yield tuple(place + (mode,) for place, mode in zip(places, modes) if mode is not None)


class AreHolds(unittest.TestCase):

    def check(self, told, rules, tree, value):
        self.assertIs(told, are_holds(rules, tree, value), (rules, tree, value))

    def check_told(self, rules, tree, value):
        self.check(told_are_holds(rules, tree, value), rules, tree, value)

    def test_holds_of_four_holders(self):
        for rules, tree, draw in tree_cases(201, 360):
            self.check(True, rules, tree, drawn_holds(draw, tree, rules[0]))

    def test_the_most_and_the_fewest_holds(self):
        tree = (None,) + tuple(range(11))
        whole = tuple((holder, thing, S) for holder in range(4) for thing in range(12))
        self.check(True, R, tree, whole)
        self.check(True, R, tree, ())
        for at in range(len(whole)):
            self.check(True, R, tree, whole[at:at + 1])

    def test_holds_need_not_be_fair(self):
        self.check(True, R, T, ((0, 3, X), (1, 3, X)))

    def test_holds_out_of_order_or_doubled(self):
        for rules, tree, draw in tree_cases(202, 120):
            holds = drawn_holds(draw, tree, rules[0])
            for at, hold in enumerate(holds):
                self.check(False, rules, tree, holds[:at] + (hold,) + holds[at:])
                if at > 0:
                    self.check(False, rules, tree, holds[:at - 1] + (hold, holds[at - 1]) + holds[at + 1:])
            if len(holds) > 1:
                self.check(False, rules, tree, holds[::-1])
                self.check(False, rules, tree, holds + holds)

    def test_two_modes_of_one_holder_on_one_thing(self):
        # These ascend as triples, since the modes do.
        for one, other in itertools.combinations(sorted(all_modes(3)), 2):
            self.check(False, R, T, ((1, 2, one), (1, 2, other)))
            self.check(False, R, T, ((0, 3, S), (1, 2, one), (1, 2, other), (2, 0, X)))
            self.check(True, R, T, ((1, 2, one), (2, 2, other)))
            self.check(True, R, T, ((1, 1, other), (1, 2, one)))

    def test_holders_and_things_that_there_are_not(self):
        for holder in (-1, 4, 5, 40, 10 ** 39, -10 ** 39, None, "0", True, False, (0,), [0]):
            self.check(False, R, T, ((holder, 0, S),))
            self.check(False, R, T, ((0, 0, S), (holder, 0, S)))
        for thing in (-1, 4, 12, 10 ** 39, None, "0", True, False, (0,), [0]):
            self.check(False, R, T, ((0, thing, S),))
            self.check(False, R, T, ((0, 0, S), (0, thing, S)))
        for many in range(1, 13):
            tree = (None,) + (0,) * (many - 1)
            for thing in range(13):
                self.check(thing < many, R, tree, ((3, thing, S),))

    def test_modes_that_are_none(self):
        for mode in (((1,), (0,)), ((3,), (3,)), ((0,), ()), ((), (1, 0)), ((), (0, 0)), ((),), ((), (), ()), None, 0,
                     [(), ()], ([], ()), ((True,), (1,)), ((False,), (0,)), "0/0", {}):
            self.check(False, R, T, ((0, 0, mode),))
            self.check(False, R, T, ((0, 0, S), (0, 1, mode)))
        self.check(True, R, T, ((0, 0, ((), ())),))

    def test_tuples_that_are_no_triples(self):
        for value in (((),), ((0,),), ((0, 0),), ((0, 0, S, S),), (0, 0, S), ((0, 0, S), ()), ((0, 0, *S),), "abc",
                      ("abc",), (("a", "b", "c"),)):
            self.check(False, R, T, value)

    def test_holds_with_one_part_changed(self):
        for rules, tree, draw in tree_cases(203, 60, 4):
            for value in changed(drawn_holds(draw, tree, rules[0])[:6]):
                self.check_told(rules, tree, value)

    def test_values_of_all_kinds(self):
        holds = ((0, 0, S), (0, 1, I), (2, 0, ((0, 2), (0, 2))))
        for odd in odd_values():
            for value in with_odd_parts(holds, odd):
                self.check_told(R, T, value)


class Fault(unittest.TestCase):

    def check(self, told, rules, tree, holds):
        self.assertEqual(told, fault(rules, tree, holds), (rules, tree, holds))

    def test_the_examples(self):
        self.check(("go", 0, 0, 1), R, T, ((0, 0, I), (0, 1, X), (1, 0, S)))
        self.check(("around", 0, 0), R, T, ((0, 1, X),))

    def test_all_holds_of_two_holders_on_few_things(self):
        for rules in all_rules(1):
            for many in (1, 2, 3):
                for tree in all_trees(many):
                    for holds in small_holds(1, many):
                        self.check(told_fault(rules, tree, holds), rules, tree, holds)

    def test_fair_holds(self):
        for rules, tree, draw in tree_cases(211, 360):
            holds = fair_holds(draw, rules, tree, 25)
            self.assertEqual([], told_lacks(tree, holds) + told_bars(rules, tree, holds))
            self.check(None, rules, tree, holds)

    def test_no_holds(self):
        for many in range(1, 13):
            self.check(None, R, (None,) + (0,) * (many - 1), ())

    def test_one_hold_left_out(self):
        for rules, tree, draw in tree_cases(212, 180):
            holds = fair_holds(draw, rules, tree, 15)
            for at, (holder, thing, _) in enumerate(holds):
                left = holds[:at] + holds[at + 1:]
                # The first of its holder's holds on things within it lacks it now.
                within = [number for number, (who, place, _) in enumerate(left)
                          if who == holder and thing in told_around(tree, place)]
                self.check(("around", within[0], thing) if within else None, rules, tree, left)

    def test_one_hold_with_less_meant(self):
        for rules, tree, draw in tree_cases(213, 180):
            holds = fair_holds(draw, rules, tree, 15)
            for at, (holder, thing, (own, means)) in enumerate(holds):
                for act in means:
                    less = tuple(other for other in own if other != act), tuple(other for other in means if other != act)
                    holds_then = holds[:at] + ((holder, thing, less),) + holds[at + 1:]
                    within = [number for number, (who, place, mode) in enumerate(holds)
                              if number != at and who == holder and thing in told_around(tree, place) and act in mode[1]]
                    self.check(("around", within[0], thing) if within else None, rules, tree, holds_then)

    def test_a_hold_with_no_acts_needs_those_around_it(self):
        none = ((), ())
        self.check(("around", 0, 0), R, T, ((0, 3, none),))
        self.check(("around", 1, 1), R, T, ((0, 0, none), (0, 3, none)))
        self.check(None, R, T, ((0, 0, none), (0, 1, none), (0, 3, none)))

    def test_a_hold_of_another_holder_does_not_do(self):
        self.check(("around", 1, 0), R, T, ((0, 0, I), (1, 1, I)))

    def test_means_count_and_own_does_not(self):
        self.check(None, R, T, ((0, 0, ((), (0, 1))), (0, 1, ((0, 1), (0, 1)))))
        self.check(("around", 1, 0), R, T, ((0, 0, ((0,), (0,))), (0, 1, ((), (0, 2)))))

    def test_modes_that_do_not_go(self):
        for rules, tree, draw in tree_cases(214, 240):
            holds = fair_holds(draw, rules, tree, 12)
            every = tuple(range(rules[0]))
            for holder in range(4):
                # The holder now holds everything that it holds, and the thing 0, in the greatest mode.
                places = {0} | {thing for who, thing, _ in holds if who == holder}
                others = [hold for hold in holds if hold[0] != holder]
                most = tuple(sorted(others + [(holder, thing, (every, every)) for thing in places]))
                bars = told_bars(rules, tree, most)
                self.check(bars[0] if bars else None, rules, tree, most)

    def test_the_least_thing_and_the_first_pair(self):
        self.check(("go", 0, 0, 1), R, (None,), tuple((holder, 0, X) for holder in range(4)))
        self.check(("go", 0, 2, 3), R, (None,), ((0, 0, ((), ())), (1, 0, ((), ())), (2, 0, X), (3, 0, X)))
        self.check(("go", 0, 0, 3), R, (None,), ((0, 0, I), (1, 0, I), (2, 0, ((), ())), (3, 0, S)))
        self.check(("go", 0, 1, 2), R, (None,), ((0, 0, ((), ())), (1, 0, I), (2, 0, S), (3, 0, S)))
        tree = (None, 0, 0)
        holds = tuple((holder, thing, mode) for holder, modes in
                      ((0, (I, ((), ()), I)), (1, (I, X, X)), (2, (I, ((), ()), X)), (3, (I, I, ((), ()))))
                      for thing, mode in enumerate(modes))
        self.check(("go", 1, 1, 3), R, tree, holds)

    def test_what_is_around_comes_first(self):
        self.check(("around", 3, 1), R, T, ((0, 0, X), (1, 0, X), (2, 0, X), (2, 3, X)))

    def test_any_holds(self):
        for rules, tree, draw in tree_cases(215, 360):
            holds = drawn_holds(draw, tree, rules[0])
            self.check(told_fault(rules, tree, holds), rules, tree, holds)

    def test_any_holds_that_lack_none_around(self):
        found = set()
        for rules, tree, draw in tree_cases(216, 480, 6):
            every = tuple(range(rules[0]))
            means = {holder: [] for holder in range(4)}
            for holder in range(4):
                for thing in range(len(tree)):
                    above = means[holder][tree[thing]] if thing else every
                    means[holder].append(tuple(act for act in above if draw.random() < 0.7))
            holds = tuple((holder, thing, (tuple(act for act in lot if draw.random() < 0.3), lot))
                          for holder in range(4) for thing, lot in enumerate(means[holder]))
            self.assertEqual([], told_lacks(tree, holds))
            told = told_fault(rules, tree, holds)
            self.check(told, rules, tree, holds)
            found.add(told)
        self.assertGreater(len(found), 15)


class May(unittest.TestCase):

    def check_all(self, tree, holds):
        for holder in range(4):
            for thing in range(len(tree)):
                found = may(tree, holds, holder, thing)
                self.assertEqual(told_may(tree, holds, holder, thing), found, (tree, holds, holder, thing))
                self.assertIs(tuple, type(found))

    def test_the_example(self):
        self.assertEqual((1,), may(T, ((0, 0, I), (0, 1, X)), 0, 3))

    def test_fair_holds(self):
        for rules, tree, draw in tree_cases(221, 180):
            self.check_all(tree, fair_holds(draw, rules, tree, 20))

    def test_any_holds(self):
        for rules, tree, draw in tree_cases(222, 120):
            self.check_all(tree, drawn_holds(draw, tree, rules[0]))

    def test_acts_of_several_things_around(self):
        tree = (None, 0, 1, 0)
        holds = ((1, 0, ((2,), (0, 1, 2))), (1, 1, ((1,), (0, 1))), (1, 2, ((0, 1), (0, 1))), (1, 3, ((4,), (4,))))
        self.assertEqual([(2,), (1, 2), (0, 1, 2), (2, 4)], [may(tree, holds, 1, thing) for thing in range(4)])
        self.assertEqual([(), (), (), ()], [may(tree, holds, 0, thing) for thing in range(4)])

    def test_no_holds(self):
        self.check_all(T, ())
        self.assertEqual((), may(T, (), 3, 3))


class Clash(unittest.TestCase):

    def check(self, rules, tree, holds):
        self.assertEqual(told_clash(rules, tree, holds), clash(rules, tree, holds), (rules, tree, holds))

    def test_the_example(self):
        self.assertEqual((1, 0, 1, 1, 0), clash(R, T, ((0, 0, I), (0, 1, X), (1, 0, S))))

    def test_all_holds_of_two_holders_on_few_things(self):
        for rules in all_rules(1):
            for tree in all_trees(2) + all_trees(3):
                for holds in small_holds(1, len(tree)):
                    self.check(rules, tree, holds)

    def test_fair_holds_have_none(self):
        for rules, tree, draw in tree_cases(231, 240):
            self.assertIsNone(clash(rules, tree, fair_holds(draw, rules, tree, 25)))

    def test_any_holds(self):
        for rules, tree, draw in tree_cases(232, 240):
            self.check(rules, tree, drawn_holds(draw, tree, rules[0]))

    def test_few_holds(self):
        for rules, tree, draw in tree_cases(233, 480):
            holds = drawn_holds(draw, tree, rules[0])
            self.check(rules, tree, tuple(hold for hold in holds if draw.random() < 0.15))

    def test_the_first_one_is_told(self):
        every = ((0, 1, 2), (0, 1, 2))
        self.assertEqual((0, 0, 1, 0, 1), clash(R, T, ((0, 0, every), (1, 0, every), (2, 0, every))))
        self.assertEqual((2, 1, 3, 1, 0), clash(R, T, ((0, 3, X), (1, 2, X), (3, 2, every))))
        self.assertEqual((3, 0, 2, 2, 1), clash(R, T, ((0, 3, ((2,), (2,))), (1, 2, X), (2, 1, X))))
        self.assertEqual((0, 0, 1, 0, 2), clash(R, (None,), ((0, 0, S), (1, 0, ((0, 2), (0, 2))))))

    def test_means_do_not_clash(self):
        self.assertIsNone(clash(R, T, tuple((holder, 0, ((), (0, 1, 2))) for holder in range(4))))

    def test_a_holder_does_not_clash_with_itself(self):
        self.assertIsNone(clash(R, T, ((2, 0, X), (2, 1, S), (2, 3, X))))

    def test_all_modes_on_one_thing(self):
        for rules in all_rules(2):
            for one, other in itertools.product(all_modes(2), repeat=2):
                self.check(rules, (None,), ((0, 0, one), (1, 0, other)))
                self.check(rules, (None, 0), ((0, 1, one), (1, 0, other)))

    def test_holds_that_go_around_still_may_clash_where_others_do_not_hold(self):
        # Not fair: 1 does not hold the thing 0, on which its mode would not go.
        self.assertEqual((1, 0, 1, 1, 0), clash(R, (None, 0), ((0, 0, X), (1, 1, S))))
        self.assertTrue(told_goes(R, ((), ()), S))

    def test_drawn_modes_of_two_holders_within_one_another(self):
        for rules, tree, draw in tree_cases(234, 300):
            one, other = drawn_mode(draw, rules[0]), drawn_mode(draw, rules[0])
            things = sorted(draw.sample(range(12), 2))
            if things[1] < len(tree):
                self.check(rules, tree, ((1, things[0], one), (3, things[1], other)))


if __name__ == "__main__":
    unittest.main()
