"""Promises [17] and [18]: ask, take, leave, undo, may and could, and their errors in order."""

import itertools
import random
import unittest

from holdmodes import errors
from holdmodes.yards import Yard
from tests.drawn import tree_cases
from tests.said import drawn_call, odd_mode, odd_number, small_mode
from tests.samples import (
    I, R, S, T, X, act_pairs, all_modes, all_rules, all_trees, held_yard, odd_values, with_odd_parts,
)
from tests.test_yards import done_yard, shown_yard
from tests.told import told_is_mode, told_number
from tests.told_yards import ToldYard, outcome

ALL_GO = (6, tuple(act_pairs(6)))
NONE = ((), ())
PATH = (None,) + tuple(range(11))


def full_yard():
    """A yard at which twenty-five deeds are in effect, each of which changed something but the last two."""
    yard = Yard(ALL_GO, T)
    for act, thing in list(itertools.product(range(6), range(4)))[:23]:
        yard.ask(thing, thing, act)
    yard.ask(0, 0, 0)
    yard.take(2, 2, NONE)
    return yard


class CallCase(unittest.TestCase):
    """Calls, held against the told yard."""

    def check(self, yard, told, name, given):
        """One call: its outcome, with the very values in it, and that a refused one changes nothing."""
        before = shown_yard(yard)
        found = outcome(getattr(yard, name), *given)
        self.assertEqual(getattr(told, name)(*given), found, (name, given, before))
        if found[0] == "raises":
            self.assertEqual(before, shown_yard(yard))
            if found[1] in ("NoHolder", "NoThing", "NoAct", "BadMode", "NoHold"):
                self.assertTrue(any(found[2] is value for value in given))
        else:
            self.assertIs(int if name in ("ask", "take", "leave", "undo") else type(found[1]), type(found[1]))
        self.assertEqual((told.holds, told.version, told.last), (yard.holds, yard.version, yard.last))
        return found[1] if found[0] == "raises" else name

    def check_all_questions(self, yard, told):
        for holder, thing in itertools.product(range(4), range(len(yard.tree))):
            self.check(yard, told, "may", (holder, thing))
            for act in range(yard.rules[0]):
                self.check(yard, told, "could", (holder, thing, act))

    def check_calls(self, rules, tree, calls):
        yard, told = Yard(rules, tree), ToldYard(rules, tree)
        return [self.check(yard, told, name, given) for name, given in calls]


class Drawn(CallCase):

    def test_up_to_twenty_deeds_of_four_holders(self):
        found = []
        for rules, tree, draw in tree_cases(1201, 720):
            found += self.check_calls(rules, tree, [drawn_call(draw, rules, tree) for _ in range(20)])
        for name in ("ask", "take", "leave", "undo", "Barred", "NoHolder", "NoThing", "NoAct", "BadMode", "NoHold",
                     "NothingToUndo"):
            self.assertGreater(found.count(name), 100, name)

    def test_more_calls_than_deeds_can_be_in_effect(self):
        found = []
        for rules, tree, draw in tree_cases(1202, 72, 4):
            calls = [drawn_call(draw, rules, tree, 30) for _ in range(90)]
            found += self.check_calls(rules, tree, [call for call in calls if call[0] != "undo"][:60])
        self.assertGreater(found.count("Full"), 500)

    def test_questions_between_deeds(self):
        for rules, tree, draw in tree_cases(1203, 72, 5):
            yard, told = Yard(rules, tree), ToldYard(rules, tree)
            for _ in range(8):
                self.check(yard, told, *drawn_call(draw, rules, tree, 40))
                self.check_all_questions(yard, told)

    def test_questions_that_are_otherwise(self):
        for rules, tree, draw in tree_cases(1204, 240):
            yard, told = Yard(rules, tree), ToldYard(rules, tree)
            for _ in range(4):
                self.check(yard, told, *drawn_call(draw, rules, tree, 40))
            for _ in range(12):
                holder, thing, act = [draw.choice((odd_number(draw, many), draw.randrange(many)))
                                      for many in (4, len(tree), rules[0])]
                self.check(yard, told, "may", (holder, thing))
                self.check(yard, told, "could", (holder, thing, act))

    def test_all_short_rows_of_deeds(self):
        calls = [("ask", (holder, thing, act)) for holder in (0, 1) for thing in (0, 1) for act in (0, 1)]
        calls += [("take", (0, 1, ((), (0,)))), ("take", (1, 0, ((0,), (0, 1)))), ("leave", (0,)), ("undo", ())]
        for rules in all_rules(2):
            for row in itertools.product(calls, repeat=3):
                self.check_calls(rules, (None, 0), row)


class Errors(CallCase):

    def check_error(self, name, fields, yard, method, *given):
        before = shown_yard(yard)
        found = outcome(getattr(yard, method), *given)
        self.assertEqual(("raises", name) + fields, found, (method, given))
        for field, told in zip(found[2:], fields):
            self.assertIs(told, field)
        self.assertEqual(before, shown_yard(yard))

    def test_values_of_all_kinds_as_a_holder(self):
        for value in odd_values() + [4, -1, 99, "0", (0,), [0]]:
            for method, given in (("ask", (3, 1)), ("take", (3, S)), ("leave", ()), ("may", (3,)), ("could", (3, 1)),
                                  ("ask", (9, 9)), ("take", (9, 9)), ("may", (9,)), ("could", (9, 9))):
                self.check_error("NoHolder", (value,), held_yard(), method, value, *given)

    def test_values_of_all_kinds_as_a_thing(self):
        for value in odd_values() + [4, -1, 99, "0", (0,), [0]]:
            for method, given in (("ask", (1,)), ("take", (S,)), ("may", ()), ("could", (1,)), ("ask", (9,)),
                                  ("take", (9,)), ("could", (9,))):
                self.check_error("NoThing", (value,), held_yard(), method, 2, value, *given)

    def test_values_of_all_kinds_as_an_act(self):
        for value in odd_values() + [3, -1, 99, "0", (0,), [0]]:
            self.check_error("NoAct", (value,), held_yard(), "ask", 0, 2, value)
            self.check_error("NoAct", (value,), held_yard(), "could", 0, 2, value)

    def test_values_of_all_kinds_as_a_mode(self):
        found = 0
        for odd in odd_values() + [0, 1, (), (0,)]:
            for value in with_odd_parts(((0,), (0, 2)), odd):
                if not told_is_mode(R, value):
                    found += 1
                    self.check_error("BadMode", (value,), held_yard(), "take", 2, 2, value)
        self.assertGreater(found, 500)

    def test_numbers_at_the_bounds(self):
        for many in range(1, 13):
            for acts in range(1, 7):
                tree, rules = PATH[:many], (acts, tuple(act_pairs(acts)))
                for holder, thing, act in ((0, 0, 0), (3, many - 1, acts - 1)):
                    self.assertEqual(1, Yard(rules, tree).ask(holder, thing, act))
                self.check_error("NoHolder", (4,), Yard(rules, tree), "ask", 4, many, acts)
                self.check_error("NoThing", (many,), Yard(rules, tree), "ask", 3, many, acts)
                self.check_error("NoAct", (acts,), Yard(rules, tree), "ask", 3, many - 1, acts)
                mode = ((), (acts,))
                self.check_error("BadMode", (mode,), Yard(rules, tree), "take", 0, 0, mode)

    def test_the_first_error_is_raised(self):
        found = set()
        for given in itertools.product((0, 2, 4, None), (0, 3, 4, None), (0, 3, None, S, I)):
            for method in ("ask", "take", "could", "may", "leave"):
                yard, told = Yard(R, T), ToldYard(R, T)
                for name, deed in (("ask", (0, 3, 1)), ("ask", (1, 2, 1))):
                    self.check(yard, told, name, deed)
                many = {"may": 2, "leave": 1}.get(method, 3)
                found.add((method, self.check(yard, told, method, given[:many])))
        for method, names in (("ask", ("NoHolder", "NoThing", "NoAct", "Barred")), ("leave", ("NoHolder", "NoHold")),
                              ("take", ("NoHolder", "NoThing", "BadMode", "Barred")), ("may", ("NoHolder", "NoThing")),
                              ("could", ("NoHolder", "NoThing", "NoAct"))):
            self.assertEqual(set(names) | {method}, {name for told, name in found if told == method})

    def test_barred_comes_last(self):
        self.check_error("NoAct", (3,), held_yard(), "ask", 2, 3, 3)
        self.check_error("BadMode", (((3,), (3,)),), held_yard(), "take", 2, 3, ((3,), (3,)))
        self.assertEqual(("raises", "Barred", 3, 0), outcome(held_yard().ask, 2, 3, 0))

    def test_who_has_no_hold_cannot_leave(self):
        for holder in (2, 3):
            self.check_error("NoHold", (holder,), held_yard(), "leave", holder)
        yard = held_yard()
        yard.leave(1)
        self.check_error("NoHold", (1,), yard, "leave", 1)
        yard.undo()
        self.assertEqual(3, yard.leave(1))

    def test_nothing_to_undo(self):
        self.check_error("NothingToUndo", (), Yard(R, T), "undo")
        yard = Yard(R, T)
        yard.ask(0, 0, 0)
        self.assertEqual(0, yard.undo())
        self.check_error("NothingToUndo", (), yard, "undo")

    def test_each_error_is_of_its_kind(self):
        for error, method, given in (
            (errors.NoHolder, "ask", (4, 0, 0)), (errors.NoThing, "ask", (0, 4, 0)), (errors.NoAct, "ask", (0, 0, 3)),
            (errors.Barred, "ask", (2, 0, 0)), (errors.BadMode, "take", (0, 0, None)), (errors.NoHold, "leave", (3,)),
        ):
            with self.assertRaises(error) as caught:
                getattr(held_yard(), method)(*given)
            self.assertIs(error, type(caught.exception))
            self.assertIs(issubclass(error, LookupError), not isinstance(caught.exception, errors.HoldError))


class Ask(CallCase):

    def test_what_is_held_behind_it(self):
        yard = Yard(R, T)
        self.assertEqual(1, yard.ask(0, 3, 1))
        self.assertEqual((((0, 0, I), (0, 1, I), (0, 3, X)), (0, 1, 3)), (yard.holds, yard.last))
        self.assertEqual(2, yard.ask(0, 1, 0))
        told = ((0, 0, ((), (0, 1))), (0, 1, ((0,), (0, 1))), (0, 3, X))
        self.assertEqual((told, (0, 1)), (yard.holds, yard.last))
        self.assertEqual(3, yard.ask(0, 3, 0))
        told = told[:2] + ((0, 3, ((0, 1), (0, 1))),)
        self.assertEqual((told, (3,)), (yard.holds, yard.last))

    def test_asked_again_it_changes_nothing_and_is_a_deed(self):
        yard = Yard(R, T)
        yard.ask(0, 3, 1)
        before = yard.holds
        self.assertEqual((2, before, ()), (yard.ask(0, 3, 1), yard.holds, yard.last))
        # The thing 3 is within the thing 1, where the act may be done by this hold.
        yard = Yard(R, T)
        yard.ask(0, 1, 1)
        self.assertEqual((2, (3,)), (yard.ask(0, 3, 1), yard.last))

    def test_the_first_thing_and_the_least_holder_bar(self):
        yard = Yard((1, ()), PATH[:3])
        yard.take(1, 2, ((), (0,)))
        yard.take(3, 1, ((), (0,)))
        yard.take(2, 2, ((), (0,)))
        self.assertEqual((0, 1), yard.could(0, 0, 0))
        self.assertEqual((1, 1), yard.could(0, 1, 0))
        self.assertEqual((2, 1), yard.could(0, 2, 0))
        self.assertEqual((0, 2), yard.could(1, 0, 0))
        self.assertEqual((1, 2), yard.could(1, 1, 0))
        self.assertEqual((2, 2), yard.could(1, 2, 0))
        self.assertEqual((2, 1), yard.could(3, 2, 0))
        for holder, thing in itertools.product(range(4), range(3)):
            bar = yard.could(holder, thing, 0)
            self.assertEqual(("raises", "Barred") + bar, outcome(yard.ask, holder, thing, 0))

    def test_the_mode_as_it_would_stand_then_bars(self):
        # What the holder means to do by an earlier hold is in no one's way; joined with a new own, it is.
        yard = Yard((2, ((0, 0),)), (None,))
        yard.take(0, 0, ((), (1,)))
        yard.take(1, 0, ((), (1,)))
        self.assertEqual((0, 1), yard.could(0, 0, 0))
        yard.leave(1)
        self.assertEqual(4, yard.ask(0, 0, 0))
        self.assertEqual(((0, 0, ((0,), (0, 1))),), yard.holds)
        self.assertEqual((0, 0), yard.could(1, 0, 0))

    def test_one_who_holds_nothing_there_bars_nobody(self):
        yard = Yard((1, ()), T)
        yard.ask(0, 3, 0)
        self.assertIsNone(yard.could(1, 2, 0))
        self.assertEqual((0, 0), yard.could(1, 0, 0))
        self.assertEqual((1, 0), yard.could(1, 1, 0))
        self.assertEqual((3, 0), yard.could(1, 3, 0))

    def test_modes_without_acts_bar_nobody(self):
        for holder in (0, 1):
            yard = Yard((1, ()), T)
            yard.take(holder, 3, NONE)
            self.assertIsNone(yard.could(1 - holder, 3, 0))


class Take(CallCase):

    def test_what_is_held_behind_it(self):
        yard = Yard(R, T)
        self.assertEqual(1, yard.take(2, 3, ((0,), (0, 1))))
        told = ((2, 0, ((), (0, 1))), (2, 1, ((), (0, 1))), (2, 3, ((0,), (0, 1))))
        self.assertEqual((told, (0, 1, 3)), (yard.holds, yard.last))
        self.assertEqual(2, yard.take(2, 1, ((2,), (2,))))
        told = ((2, 0, ((), (0, 1, 2))), (2, 1, ((2,), (0, 1, 2))), told[2])
        self.assertEqual((told, (0, 1)), (yard.holds, yard.last))
        # What is within keeps its mode, and what is around keeps more than the mode needs.
        self.assertEqual(3, yard.take(2, 0, ((0,), (0,))))
        self.assertEqual((((2, 0, ((0,), (0, 1, 2))),) + told[1:], (0,)), (yard.holds, yard.last))

    def test_a_mode_without_acts_is_held_all_the_same(self):
        yard = Yard(R, T)
        self.assertEqual(1, yard.take(1, 3, NONE))
        self.assertEqual((((1, 0, NONE), (1, 1, NONE), (1, 3, NONE)), (0, 1, 3)), (yard.holds, yard.last))
        self.assertEqual((2, ()), (yard.take(1, 1, NONE), yard.last))
        self.assertEqual((3, (0, 1)), (yard.ask(1, 1, 0), yard.last))
        self.assertEqual((4, (0, 1, 3)), (yard.leave(1), yard.last))

    def test_each_mode_of_small_rules(self):
        for rules in all_rules(2):
            for mode, other in itertools.product(all_modes(2), repeat=2):
                for thing, with_thing in itertools.product((0, 1), repeat=2):
                    taken = (0, thing, mode), (3, with_thing, other), (0, 1 - thing, other)
                    self.check_calls(rules, (None, 0), [("take", given) for given in taken])

    def test_barred_as_ask_is(self):
        for rules, tree, draw in tree_cases(1211, 72):
            yard = done_yard(rules, tree, [drawn_call(draw, rules, tree, 40) for _ in range(10)])
            for holder, thing, act in itertools.product(range(4), range(len(tree)), range(rules[0])):
                bar = yard.could(holder, thing, act)
                for method, given in (("ask", act), ("take", ((act,), (act,)))):
                    found = outcome(getattr(yard, method), holder, thing, given)
                    self.assertEqual(("returns", yard.version) if bar is None else ("raises", "Barred") + bar, found)
                    if bar is None:
                        yard.undo()

    def test_the_mode_as_told_is_not_changed(self):
        mode = ((0,), (0, 1))
        yard = Yard(R, T)
        yard.take(0, 1, mode)
        yard.take(0, 1, ((2,), (2,)))
        self.assertEqual(((0,), (0, 1)), mode)
        self.assertEqual(((0, ((0, 2), (0, 1, 2))),), yard[1])


class Leave(CallCase):

    def test_all_holds_of_the_holder_are_given_back(self):
        for holder in range(4):
            yard = Yard(ALL_GO, T)
            for who, thing in itertools.product(range(4), (3, 2)):
                yard.ask(who, thing, who)
            before = yard.holds
            self.assertEqual(9, yard.leave(holder))
            self.assertEqual(tuple(hold for hold in before if hold[0] != holder), yard.holds)
            self.assertEqual((0, 1, 2, 3), yard.last)
            self.assertEqual((8, before, (0, 1, 2, 3)), (yard.undo(), yard.holds, yard.last))

    def test_it_makes_way(self):
        yard = held_yard()
        self.assertEqual((1, 0), yard.could(1, 1, 0))
        yard.leave(0)
        self.assertIsNone(yard.could(1, 1, 0))
        self.assertEqual(4, yard.ask(1, 1, 0))


class Undo(CallCase):

    def test_it_takes_the_last_deed_back(self):
        for rules, tree, draw in tree_cases(1221, 120):
            yard, states = Yard(rules, tree), [()]
            while yard.version < 20 and len(states) < 21:
                name, given = drawn_call(draw, rules, tree, 40)
                if name != "undo" and outcome(getattr(yard, name), *given)[0] == "returns":
                    states.append(yard.holds)
            for version in range(len(states) - 2, -1, -1):
                before = dict(((hold[0], hold[1]), hold[2]) for hold in yard.holds)
                self.assertEqual((version, states[version]), (yard.undo(), yard.holds))
                behind = dict(((hold[0], hold[1]), hold[2]) for hold in yard.holds)
                unlike = {at[1] for at in set(before) | set(behind) if before.get(at) != behind.get(at)}
                self.assertEqual((version, tuple(sorted(unlike))), (yard.version, yard.last))
            self.assertEqual(("raises", "NothingToUndo"), outcome(yard.undo))

    def test_last_behind_it_is_what_the_undo_changed(self):
        yard = Yard(R, T)
        yard.ask(0, 3, 1)
        yard.ask(0, 3, 1)
        self.assertEqual((1, ()), (yard.undo(), yard.last))
        self.assertEqual((0, (0, 1, 3)), (yard.undo(), yard.last))
        yard.ask(1, 2, 0)
        self.assertEqual((0, 2), yard.last)

    def test_deeds_behind_it_begin_where_it_ended(self):
        yard = held_yard()
        yard.undo()
        self.assertEqual((2, 1), (yard.take(2, 0, NONE), yard.undo()))
        self.assertEqual((((0, 0, I), (0, 1, I), (0, 3, X)), 1), (yard.holds, yard.version))
        self.assertEqual((0, Yard(R, T)), (yard.undo(), yard))


class Last(CallCase):

    def test_a_refused_deed_leaves_it(self):
        yard = held_yard()
        self.assertEqual((0, 2), yard.last)
        for method, given in (("ask", (2, 0, 0)), ("ask", (4, 0, 0)), ("ask", (0, 4, 0)), ("ask", (0, 0, 3)),
                              ("take", (2, 0, X)), ("take", (0, 0, None)), ("leave", (3,)), ("leave", (None,))):
            self.assertEqual("raises", outcome(getattr(yard, method), *given)[0], (method, given))
            self.assertEqual((0, 2), yard.last)
        yard.undo()
        yard.undo()
        before = yard.last
        self.assertEqual((0, 1, 3), before)
        self.assertEqual("raises", outcome(yard.undo)[0])
        self.assertEqual(before, yard.last)

    def test_a_deed_that_changes_nothing_leaves_nothing_in_it(self):
        yard = held_yard()
        yard.ask(0, 3, 1)
        self.assertEqual(((), 3), (yard.last, yard.version))

    def test_questions_leave_it(self):
        yard = held_yard()
        yard.may(0, 0), yard.could(2, 0, 0), yard.could(2, 2, 2), yard[1], len(yard), str(yard)
        self.assertEqual((0, 2), yard.last)


class Full(CallCase):

    def test_twenty_five_deeds(self):
        yard = Yard(ALL_GO, T)
        for version in range(1, 26):
            self.assertEqual(version, yard.ask(version % 4, version % 3, version % 6))
        before = shown_yard(yard)
        for method, given in (("ask", (0, 0, 0)), ("take", (0, 0, NONE)), ("leave", (0,))):
            self.assertEqual(("raises", "Full"), outcome(getattr(yard, method), *given))
            self.assertEqual(before, shown_yard(yard))

    def test_ahead_of_all_else(self):
        wrong = (None, 4, -1, True, "0", (), [0], 99)
        yard = full_yard()
        for holder, thing, act in itertools.product(wrong, repeat=3):
            self.assertEqual(("raises", "Full"), outcome(yard.ask, holder, thing, act))
            self.assertEqual(("raises", "Full"), outcome(yard.take, holder, thing, act))
            self.assertEqual(("raises", "Full"), outcome(yard.leave, holder))
        empty = Yard(R, T)
        for _ in range(25):
            empty.take(0, 0, ((), (1,)))
        # Nobody else has a hold, and all that could be asked for is barred.
        self.assertEqual(("raises", "Full"), outcome(empty.leave, 3))
        self.assertEqual(((0, 0), ("raises", "Full")), (empty.could(1, 0, 0), outcome(empty.ask, 1, 0, 0)))

    def test_questions_are_answered_all_the_same(self):
        yard, told = full_yard(), ToldYard(ALL_GO, T)
        told.kept = [{}] * 25 + [{(holder, thing): mode for holder, thing, mode in yard.holds}]
        self.assertEqual(25, yard.version)
        told.last = yard.last
        self.check_all_questions(yard, told)
        for given in ((4, 0, 0), (0, 4, 0), (0, 0, 6), (None, None, None)):
            self.check(yard, told, "could", given)
            self.check(yard, told, "may", given[:2])
        self.assertIsNone(yard.could(0, 0, 5))

    def test_undo_goes_back_through_all_states(self):
        for rules, tree, draw in tree_cases(1231, 24):
            yard, states = Yard(rules, tree), [()]
            while yard.version < 25:
                holder, thing = draw.randrange(4), draw.randrange(len(tree))
                if outcome(yard.take, holder, thing, small_mode(draw, rules[0]))[0] == "returns":
                    states.append(yard.holds)
            self.assertEqual(("raises", "Full"), outcome(yard.take, 0, 0, NONE))
            for version in range(24, -1, -1):
                self.assertEqual((version, states[version]), (yard.undo(), yard.holds))
            self.assertEqual(("raises", "NothingToUndo"), outcome(yard.undo))
            self.assertEqual(1, yard.take(0, 0, NONE))

    def test_behind_an_undo_there_is_room_for_one(self):
        yard = full_yard()
        self.assertEqual((24, 25), (yard.undo(), yard.leave(0)))
        self.assertEqual(("raises", "Full"), outcome(yard.leave, 1))


class MayAndCould(CallCase):

    def test_may_as_may_tells_of_the_holds(self):
        yard = held_yard()
        self.assertEqual(((1,), (), (1,)), (yard.may(0, 3), yard.may(0, 1), yard.may(1, 2)))
        yard.take(0, 1, ((2,), (2,)))
        self.assertEqual(((1, 2), (2,), ()), (yard.may(0, 3), yard.may(0, 1), yard.may(0, 2)))
        self.assertEqual((), yard.may(3, 3))

    def test_could_as_ask_does_then(self):
        found = []
        for rules, tree, draw in tree_cases(1241, 240):
            yard = done_yard(rules, tree, [drawn_call(draw, rules, tree, 40) for _ in range(8)])
            for _ in range(12):
                given = draw.randrange(4), draw.randrange(len(tree)), draw.randrange(rules[0])
                bar = yard.could(*given)
                told = outcome(yard.ask, *given)
                self.assertEqual(("returns", yard.version) if bar is None else ("raises", "Barred") + bar, told)
                found.append(bar is None)
        self.assertGreater(min(found.count(True), found.count(False)), 300)

    def test_they_change_nothing(self):
        for yard in (held_yard(), full_yard(), Yard(R, T)):
            before = shown_yard(yard)
            for holder, thing, act in itertools.product((0, 1, 3, 4, None), (0, 3, 4, None), (0, 2, 6, None)):
                outcome(yard.may, holder, thing)
                outcome(yard.could, holder, thing, act)
            self.assertEqual(before, shown_yard(yard))


class Small(CallCase):

    def test_each_call_in_each_small_yard(self):
        draw = random.Random(1251)
        for rules in all_rules(1):
            for tree in all_trees(1) + all_trees(2) + all_trees(3):
                deeds = [("ask", 0)] + [("take", mode) for mode in all_modes(1)]
                calls = [(name, (holder, thing, given)) for holder in range(4) for thing in range(len(tree))
                         for name, given in deeds]
                calls += [("leave", (holder,)) for holder in range(4)] + [("undo", ())]
                for _ in range(60):
                    self.check_calls(rules, tree, draw.choices(calls, k=12))

    def test_odd_parts_are_odd(self):
        draw = random.Random(1252)
        for _ in range(300):
            many = draw.randint(1, 12)
            self.assertFalse(told_number(odd_number(draw, many), 0, many - 1))
            acts = draw.randint(1, 6)
            self.assertFalse(told_is_mode((acts, ()), odd_mode(draw, acts)))


if __name__ == "__main__":
    unittest.main()
