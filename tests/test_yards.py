"""Promises [16] and [18]: a yard made, its properties, yard[thing], len, == and str."""

import random
import unittest

from holdmodes.desks import Desk
from holdmodes.errors import BadYard, NoThing
from holdmodes.yards import Yard
from tests.drawn import tree_cases
from tests.said import drawn_call
from tests.samples import (
    I, R, S, T, X, all_rules, all_trees, changed, drawn_rules, drawn_trees, held_yard, odd_values, with_odd_parts,
)
from tests.told import told_rules_error, told_tree_error
from tests.told_yards import ToldYard, outcome

PROPERTIES = ("rules", "tree", "holds", "version", "last")


def shown_yard(yard):
    """All that a yard shows of itself."""
    rows = tuple(yard[thing] for thing in range(len(yard.tree)))
    return tuple(getattr(yard, name) for name in PROPERTIES) + (rows, len(yard), str(yard))


def done_yard(rules, tree, calls):
    """A yard behind these calls, of which some may have raised errors."""
    yard = Yard(rules, tree)
    for name, told in calls:
        outcome(getattr(yard, name), *told)
    return yard


class Made(unittest.TestCase):

    def check(self, rules, tree):
        """Against what the document says of values that are rules and a tree, or something else."""
        error = told_rules_error(rules)
        word = "tree" if error is None else "rules"
        error = told_tree_error(tree) if error is None else error
        if error is None:
            self.assertEqual((rules, tree, (), 0, ()), shown_yard(Yard(rules, tree))[:5])
        else:
            with self.assertRaises(BadYard) as caught:
                Yard(rules, tree)
            self.assertEqual((word, error), (caught.exception.word, caught.exception.error), (rules, tree))
            self.assertEqual((str, type(error)), (type(caught.exception.word), type(caught.exception.error)))

    def test_all_small_rules_and_trees(self):
        for acts in (1, 2):
            for rules in all_rules(acts):
                for many in (1, 2, 3, 4):
                    for tree in all_trees(many):
                        self.check(rules, tree)

    def test_rules_of_one_to_six_acts_and_trees_of_one_to_twelve_things(self):
        for rules, tree, _ in tree_cases(1101, 432):
            yard = Yard(rules, tree)
            self.assertEqual((rules, tree, (), 0, (), ((),) * len(tree), 0), shown_yard(yard)[:7])
            self.assertEqual("0 holds of 0 holders, version 0", str(yard))

    def test_rules_with_one_part_changed(self):
        for rules in drawn_rules(1102, 36):
            for value in changed(rules):
                self.check(value, T)

    def test_trees_with_one_part_changed(self):
        for tree in drawn_trees(1103, 36):
            for value in changed(tree):
                self.check(R, value)

    def test_both_otherwise(self):
        for rules in drawn_rules(1104, 6):
            for value in changed(rules):
                self.check(value, (None, 1))
                self.check(value, None)

    def test_rules_come_first(self):
        for rules, error in ((None, "rules"), ((0, ()), "acts"), ((7, ()), "acts"), ((3, ((1, 0),)), "beside")):
            for tree in (T, None, (), (0,), (None, 1)):
                with self.assertRaises(BadYard) as caught:
                    Yard(rules, tree)
                self.assertEqual(("rules", error), (caught.exception.word, caught.exception.error))
        for tree, error in ((None, "tree"), ((), "tree"), ((0,), 0), ((None, 1), 1), ((None, 0, 0, 3), 3),
                            ((None,) + (0,) * 12, "tree")):
            with self.assertRaises(BadYard) as caught:
                Yard(R, tree)
            self.assertEqual(("tree", error), (caught.exception.word, caught.exception.error))

    def test_values_of_all_kinds(self):
        for odd in odd_values():
            for value in with_odd_parts((2, ((0, 1),)), odd):
                self.check(value, T)
            for value in with_odd_parts((None, 0), odd):
                self.check(R, value)
            self.check(odd, odd)

    def test_the_rules_and_the_tree_of_a_yard_are_no_copies_of_other_values(self):
        yard = held_yard()
        again = Yard(yard.rules, yard.tree)
        self.assertEqual((R, T, ()), (again.rules, again.tree, again.holds))


class Properties(unittest.TestCase):

    def test_the_example(self):
        yard = Yard(R, T)
        found = yard.ask(0, 3, 1), yard.ask(1, 2, 1), yard.last, yard[0], yard.could(1, 1, 0), yard.may(0, 3), str(yard)
        told = (1, 2, (0, 2), ((0, I), (1, I)), (1, 0), (1,), "5 holds of 2 holders, version 2")
        self.assertEqual(told, found)
        found = yard.leave(0), yard.last, yard.holds, yard.undo(), len(yard)
        self.assertEqual((3, (0, 1, 3), ((1, 0, I), (1, 2, X)), 2, 5), found)

    def test_they_can_only_be_read(self):
        yard = held_yard()
        before = shown_yard(yard)
        for name in PROPERTIES:
            for value in (None, (), getattr(yard, name), Yard(R, T)):
                with self.assertRaises(AttributeError):
                    setattr(yard, name, value)
            with self.assertRaises(AttributeError):
                delattr(yard, name)
        self.assertEqual(before, shown_yard(yard))

    def test_reading_changes_nothing(self):
        yard = held_yard()
        for _ in range(3):
            self.assertEqual(shown_yard(held_yard()), shown_yard(yard))
            yard.may(0, 3), yard.could(1, 1, 0), yard == held_yard(), yard != 0

    def test_what_was_read_stays_as_it_is(self):
        yard = held_yard()
        before = shown_yard(yard)
        kept = yard.holds, yard.last, yard[0]
        yard.leave(0)
        yard.take(2, 2, ((), ()))
        self.assertEqual((before[2], before[4], before[5][0]), kept)

    def test_they_are_made_of_tuples_and_integers(self):
        for rules, tree, draw in tree_cases(1111, 60):
            yard = done_yard(rules, tree, [drawn_call(draw, rules, tree, 40) for _ in range(12)])
            for holder, thing, (own, means) in yard.holds:
                self.assertEqual((int, int, tuple, tuple), (type(holder), type(thing), type(own), type(means)))
            self.assertEqual((tuple, int, tuple), (type(yard.holds), type(yard.version), type(yard.last)))
            self.assertTrue(all(type(hold) is tuple and type(hold[2]) is tuple for hold in yard.holds))
            self.assertTrue(all(type(act) is int for hold in yard.holds for lot in hold[2] for act in lot))
            self.assertTrue(all(type(thing) is int for thing in yard.last))


class Items(unittest.TestCase):

    def test_each_thing_that_there_is(self):
        for rules, tree, draw in tree_cases(1121, 120):
            yard = done_yard(rules, tree, [drawn_call(draw, rules, tree, 40) for _ in range(12)])
            for thing in range(len(tree)):
                told = tuple((holder, mode) for holder, place, mode in yard.holds if place == thing)
                self.assertEqual(told, yard[thing])
                self.assertIs(tuple, type(yard[thing]))
                self.assertTrue(all(type(pair) is tuple for pair in yard[thing]))

    def test_no_other_thing(self):
        for many in range(1, 13):
            yard = Yard(R, (None,) + (0,) * (many - 1))
            for thing in range(-14, 15):
                if thing not in range(many):
                    with self.assertRaises(NoThing) as caught:
                        yard[thing]
                    self.assertEqual(thing, caught.exception.thing)
                else:
                    self.assertEqual((), yard[thing])

    def test_values_of_all_kinds(self):
        yard = held_yard()
        before = shown_yard(yard)
        for value in odd_values() + [(0,), ((0, 1),), (0, 1), 4, -4, "3", [3]]:
            with self.assertRaises(NoThing) as caught:
                yard[value]
            self.assertIs(value, caught.exception.thing)
        self.assertEqual(before, shown_yard(yard))


class LenAndStr(unittest.TestCase):

    def check(self, holds, holders, version, yard):
        self.assertEqual(holds, len(yard))
        self.assertEqual(f"{holds} holds of {holders} holders, version {version}", str(yard))
        self.assertEqual(str(yard), f"{yard}")

    def test_always_these_words(self):
        yard = Yard(R, T)
        self.check(0, 0, 0, yard)
        yard.ask(0, 0, 0)
        self.check(1, 1, 1, yard)
        yard.ask(3, 0, 0)
        self.check(2, 2, 2, yard)
        yard.ask(3, 3, 0)
        self.check(4, 2, 3, yard)
        yard.leave(0)
        self.check(3, 1, 4, yard)
        yard.leave(3)
        self.check(0, 0, 5, yard)
        yard.undo()
        self.check(3, 1, 4, yard)

    def test_drawn_yards(self):
        for rules, tree, draw in tree_cases(1131, 120):
            yard = done_yard(rules, tree, [drawn_call(draw, rules, tree) for _ in range(draw.randrange(25))])
            self.check(len(yard.holds), len({hold[0] for hold in yard.holds}), yard.version, yard)

    def test_the_most_holds(self):
        yard = Yard((1, ()), (None,) + tuple(range(11)))
        for holder in range(4):
            yard.take(holder, 11, ((), ()))
        self.check(48, 4, 4, yard)


class Equal(unittest.TestCase):

    def check(self, equal, one, other):
        for left, right in ((one, other), (other, one)):
            self.assertIs(equal, left == right)
            self.assertIs(not equal, left != right)

    def test_a_yard_and_itself(self):
        for yard in (Yard(R, T), held_yard()):
            self.check(True, yard, yard)

    def test_equal_yards(self):
        self.check(True, Yard(R, T), Yard(R, T))
        self.check(True, held_yard(), held_yard())
        for rules, tree, draw in tree_cases(1141, 60):
            calls = [drawn_call(draw, rules, tree) for _ in range(12)]
            self.check(True, done_yard(rules, tree, calls), done_yard(rules, tree, calls))

    def test_other_deeds_and_the_same_holds(self):
        yard, other = held_yard(), Yard(R, T)
        other.ask(1, 2, 1)
        self.check(False, yard, other)
        other.ask(0, 3, 1)
        self.assertNotEqual(yard.last, other.last)
        self.check(True, yard, other)
        other.ask(0, 3, 1)
        self.assertEqual((2, 3, ()), (yard.version, other.version, other.last))
        self.check(True, yard, other)
        other.leave(0)
        self.check(False, yard, other)
        other.undo()
        self.check(True, yard, other)
        gone = Yard(R, T)
        gone.ask(0, 3, 1)
        gone.leave(0)
        self.check(True, Yard(R, T), gone)

    def test_another_hold(self):
        for call in (("take", (2, 2, ((), ()))), ("take", (0, 3, ((), (0,)))), ("leave", (1,)), ("undo", ())):
            other = held_yard()
            getattr(other, call[0])(*call[1])
            self.check(False, held_yard(), other)

    def test_other_rules_or_another_tree(self):
        self.check(False, Yard(R, T), Yard((3, ((0, 0),)), T))
        self.check(False, Yard(R, T), Yard((4, R[1]), T))
        self.check(False, Yard(R, T), Yard(R, (None, 0, 0)))
        self.check(False, Yard(R, T), Yard(R, (None, 0, 1, 1)))
        self.check(False, Yard((1, ()), (None,)), Yard((1, ((0, 0),)), (None,)))
        for call in (("ask", (0, 0, 0)), ("take", (1, 0, S))):
            yards = [done_yard(rules, tree, [call]) for rules in (R, (3, ())) for tree in (T, (None, 0))]
            for at, yard in enumerate(yards):
                for with_at, other in enumerate(yards):
                    self.check(at == with_at, yard, other)

    def test_values_of_all_kinds(self):
        for yard in (Yard(R, T), held_yard()):
            for value in odd_values() + [R, T, yard.holds, (R, T, yard.holds), str(yard), len(yard), Desk(yard),
                                         [yard]]:
                equal = isinstance(value, Yard) and len(value) == len(yard)
                self.check(equal, yard, value)

    def test_drawn_yards(self):
        draw = random.Random(1142)
        rules, tree = (2, ((0, 0),)), (None, 0)
        found = []
        for _ in range(40):
            found.append(done_yard(rules, tree, [drawn_call(draw, rules, tree, 40) for _ in range(draw.randrange(4))]))
        for one in found:
            for other in found:
                self.check(one.holds == other.holds, one, other)


class Told(unittest.TestCase):

    def test_what_a_yard_shows_behind_each_call(self):
        for rules, tree, draw in tree_cases(1151, 72):
            yard, told = Yard(rules, tree), ToldYard(rules, tree)
            for _ in range(12):
                name, given = drawn_call(draw, rules, tree)
                outcome(getattr(yard, name), *given)
                getattr(told, name)(*given)
                rows = tuple(told.on(thing)[1] for thing in range(len(tree)))
                shown = (rules, tree, told.holds, told.version, told.last, rows, len(told.holds), told.text())
                self.assertEqual(shown, shown_yard(yard))


if __name__ == "__main__":
    unittest.main()
