"""Promise [18]: tried, behind which the yard stands as it was ahead of it."""

import random
import unittest

from holdmodes import errors
from holdmodes.desks import Desk
from holdmodes.yards import Yard
from tests.drawn import tree_cases
from tests.said import drawn_call, more_blanks
from tests.samples import I, R, T, X, held_yard, odd_values
from tests.test_deeds import NONE, full_yard
from tests.test_yards import done_yard, shown_yard
from tests.told_yards import ToldYard, outcome


class Other(Exception):
    """An error that is none of the package."""


def undone(yard):
    """All that a yard shows on its way back to the first state, which it is left in."""
    shown = [shown_yard(yard)]
    while yard.version > 0:
        yard.undo()
        shown.append(shown_yard(yard))
    return shown


def do_deeds(yard):
    yard.leave(0)
    yard.ask(2, 1, 1)
    yard.take(3, 3, NONE)


def undo_all(yard):
    while yard.version > 0:
        yard.undo()


def fill(yard):
    while yard.version < 25:
        yard.take(0, 0, NONE)


def refused(yard):
    for name, given in (("ask", (4, 0, 0)), ("take", (0, 0, None)), ("leave", (None,)), ("ask", (2, 0, 0))):
        outcome(getattr(yard, name), *given)


WORKS = (do_deeds, undo_all, fill, refused, shown_yard)


class Stands(unittest.TestCase):

    def check(self, yard, function, error=None):
        """The yard stands as it did, and undo goes on as it would have."""
        before, held = shown_yard(yard), yard.holds
        if error is None:
            yard.tried(function)
        else:
            with self.assertRaises(error):
                yard.tried(function)
        self.assertEqual(before, shown_yard(yard))
        self.assertEqual(held, yard.holds)

    def check_undone(self, make, function, error=None):
        yard = make()
        self.check(yard, function, error)
        self.assertEqual(undone(make()), undone(yard))

    def test_functions_that_work_on_the_yard(self):
        for function in WORKS:
            self.check_undone(held_yard, function)
        for function in (undo_all, refused, shown_yard):
            self.check_undone(full_yard, function)
            self.check_undone(lambda: Yard(R, T), function)

    def test_it_did_work_within(self):
        yard = held_yard()
        seen = yard.tried(lambda tried: (do_deeds(tried), shown_yard(tried))[1])
        other = held_yard()
        do_deeds(other)
        self.assertEqual(shown_yard(other), seen)
        self.assertEqual(shown_yard(held_yard()), shown_yard(yard))
        self.assertEqual((5, (0, 1, 3)), (seen[3], seen[4]))

    def test_deeds_behind_it_go_on(self):
        yard = held_yard()
        yard.tried(do_deeds)
        self.assertEqual((3, (0, 1, 3)), (yard.leave(0), yard.last))
        yard.tried(undo_all)
        self.assertEqual((2, (0, 1, 3), 1, (0, 2)), (yard.undo(), yard.last, yard.undo(), yard.last))
        self.assertEqual(((0, 0, I), (0, 1, I), (0, 3, X)), yard.holds)

    def test_last_is_as_it_was(self):
        for ahead in ((), ("undo",), ("undo", "undo")):
            yard = held_yard()
            for name in ahead:
                getattr(yard, name)()
            before = yard.last
            for function in (undo_all, fill, refused):
                yard.tried(function)
                self.assertEqual(before, yard.last)
        self.assertEqual((), done_yard(R, T, ()).tried(lambda yard: yard.last))

    def test_a_full_yard(self):
        def work(yard):
            self.assertEqual(("raises", "Full"), outcome(yard.ask, 0, 0, 0))
            undo_all(yard)
            return [yard.ask(0, 3, 1), yard.ask(1, 3, 1), yard.undo(), yard.version]

        yard = full_yard()
        self.assertEqual([1, 2, 1, 1], yard.tried(work))
        self.assertEqual((25, ("raises", "Full")), (yard.version, outcome(yard.ask, 0, 0, 0)))
        self.assertEqual(undone(full_yard()), undone(yard))

    def test_errors_go_on(self):
        for error in (Other("x"), ValueError("x"), KeyError(1), LookupError(), IndexError(), TypeError(), StopIteration(),
                      errors.HoldError(), errors.Barred(0, 1), errors.NoAct("x"), errors.BadYard(1, 2), errors.Full(),
                      KeyboardInterrupt(), RuntimeError(), AssertionError()):
            def work(yard):
                do_deeds(yard)
                raise error

            yard = held_yard()
            before = shown_yard(yard)
            with self.assertRaises(type(error)) as caught:
                yard.tried(work)
            self.assertIs(error, caught.exception)
            self.assertEqual(before, shown_yard(yard))
            self.assertEqual(undone(held_yard()), undone(yard))

    def test_errors_of_the_yard_go_on(self):
        for name, given, error in (
            ("ask", (4, 0, 0), errors.NoHolder), ("ask", (0, 4, 0), errors.NoThing), ("ask", (0, 0, 3), errors.NoAct),
            ("ask", (3, 0, 0), errors.Barred), ("take", (0, 0, None), errors.BadMode), ("leave", (3,), errors.NoHold),
            ("may", (0, None), errors.NoThing), ("could", (None, 0, 0), errors.NoHolder),
        ):
            def work(yard):
                yard.undo()
                yard.take(2, 2, NONE)
                getattr(yard, name)(*given)

            self.check_undone(held_yard, work, error)
        self.check_undone(held_yard, lambda yard: [yard.undo() for _ in range(3)], errors.NothingToUndo)
        self.check_undone(held_yard, lambda yard: [yard.take(0, 0, NONE) for _ in range(30)], errors.Full)
        self.check_undone(held_yard, lambda yard: yard[4], errors.NoThing)

    def test_an_error_that_was_caught_within(self):
        def work(yard):
            try:
                yard.leave(3)
            except LookupError:
                return yard.leave(0)

        yard = held_yard()
        self.assertEqual(3, yard.tried(work))
        self.assertEqual(shown_yard(held_yard()), shown_yard(yard))


class Returned(unittest.TestCase):

    def test_what_the_function_returned_as_it_is(self):
        for value in odd_values() + [object(), Other("x"), {1, 2}, lambda: 0, Other]:
            yard = held_yard()
            self.assertIs(value, yard.tried(lambda tried: (tried.leave(0), value)[1]))
            self.assertIs(value, yard.tried(lambda tried: value))

    def test_it_is_called_with_the_yard_once(self):
        yard, seen = held_yard(), []
        self.assertIsNone(yard.tried(seen.append))
        self.assertEqual(1, len(seen))
        self.assertIs(yard, seen[0])
        self.assertIs(yard, yard.tried(lambda tried: tried))

    def test_methods_and_functions_of_others(self):
        yard = held_yard()
        self.assertEqual("5 holds of 2 holders, version 2", yard.tried(str))
        self.assertEqual(5, yard.tried(len))
        self.assertEqual(1, yard.tried(Yard.undo))
        self.assertIs(True, yard.tried(held_yard().__eq__))
        self.assertEqual(2, yard.version)

    def test_by_its_name(self):
        self.assertEqual(3, held_yard().tried(function=lambda yard: yard.leave(0)))


class Within(unittest.TestCase):

    def test_tried_in_its_turn(self):
        def inner(yard):
            undo_all(yard)
            yard.ask(3, 2, 0)
            return shown_yard(yard)

        def outer(yard):
            do_deeds(yard)
            before = shown_yard(yard)
            found = yard.tried(inner)
            self.assertEqual(before, shown_yard(yard))
            yard.undo()
            return before, found, yard.version

        yard = held_yard()
        before, found, version = yard.tried(outer)
        self.assertEqual((5, 1, 4), (before[3], found[3], version))
        self.assertEqual(undone(held_yard()), undone(yard))

    def test_twenty_deep(self):
        def work(yard, depth):
            before = shown_yard(yard)
            yard.take(depth % 4, depth % 3, NONE)
            within = shown_yard(yard)
            versions = yard.tried(lambda tried: work(tried, depth + 1)) if depth < 20 else []
            self.assertEqual(within, shown_yard(yard))
            self.assertNotEqual(before, within)
            return [yard.version] + versions

        yard = held_yard()
        self.assertEqual(list(range(3, 23)), yard.tried(lambda tried: work(tried, 1)))
        self.assertEqual(undone(held_yard()), undone(yard))

    def test_twenty_deep_with_undo(self):
        def work(yard, depth):
            yard.undo()
            if depth < 20:
                yard.tried(lambda tried: work(tried, depth + 1))
            self.assertEqual(25 - depth, yard.version)
            return yard.holds

        yard = full_yard()
        yard.tried(lambda tried: work(tried, 1))
        self.assertEqual(undone(full_yard()), undone(yard))

    def test_an_error_out_of_twenty_deep(self):
        seen = []

        def work(yard, depth):
            yard.take(depth % 4, 3, NONE)
            before = shown_yard(yard)
            try:
                if depth == 20:
                    raise Other("x")
                yard.tried(lambda tried: work(tried, depth + 1))
            finally:
                seen.append(shown_yard(yard) == before)

        yard = held_yard()
        with self.assertRaises(Other):
            yard.tried(lambda tried: work(tried, 1))
        self.assertEqual([True] * 20, seen)
        self.assertEqual(undone(held_yard()), undone(yard))

    def test_an_error_caught_half_way(self):
        def inner(yard):
            yard.leave(0)
            raise Other("x")

        def outer(yard):
            yard.leave(1)
            with self.assertRaises(Other):
                yard.tried(inner)
            return yard.version, len(yard)

        yard = held_yard()
        self.assertEqual((3, 3), yard.tried(outer))
        self.assertEqual((2, 5), (yard.version, len(yard)))


class Others(unittest.TestCase):
    """What was done to other objects stays."""

    def test_lines_said_to_a_desk_at_the_yard(self):
        yard = held_yard()
        desk = Desk(yard)
        desk.say("count")

        def work(tried):
            return [desk.say(line) for line in ("leave 0", "undo", "undo", "last", "go", None)]

        told = ["ok 3", "ok 2", "ok 1", "0 2", "what", "what"]
        self.assertEqual(told, yard.tried(work))
        self.assertEqual(shown_yard(held_yard()), shown_yard(yard))
        lines = ("count", "leave 0", "undo", "undo", "last", "go", None)
        self.assertEqual(tuple(zip(lines, [str(held_yard())] + told)), desk.history)
        self.assertEqual("5 holds of 2 holders, version 2", desk.say("count"))

    def test_another_yard(self):
        yard, other = held_yard(), held_yard()

        def work(tried):
            other.leave(0)
            tried.leave(1)
            other.tried(undo_all)
            raise Other("x")

        with self.assertRaises(Other):
            yard.tried(work)
        self.assertEqual((2, 5), (yard.version, len(yard)))
        self.assertEqual((3, 2, (0, 1, 3)), (other.version, len(other), other.last))

    def test_a_yard_tried_within_another(self):
        yard, other = held_yard(), full_yard()

        def work(tried):
            tried.leave(0)
            found = other.tried(lambda within: (within.undo(), tried.leave(1), within.version)[2])
            return found, other.version, tried.version

        self.assertEqual((24, 25, 4), yard.tried(work))
        self.assertEqual((2, 25), (yard.version, other.version))

    def test_lists_and_dicts(self):
        rows, table = [], {}

        def work(tried):
            rows.append(tried.leave(0))
            table["version"] = tried.version
            raise Other("x")

        with self.assertRaises(Other):
            held_yard().tried(work)
        self.assertEqual(([3], {"version": 3}), (rows, table))


class Drawn(unittest.TestCase):

    def test_tried_among_drawn_deeds(self):
        draw = random.Random(1301)
        for rules, tree, _ in tree_cases(1302, 120):
            yard, told = Yard(rules, tree), ToldYard(rules, tree)

            def work(tried, depth):
                """Calls, some of them tried in their turn, and perhaps an error at the end."""
                twin = told.copy()
                for _ in range(draw.randrange(4)):
                    name, given = drawn_call(draw, rules, tree, 30)
                    self.assertEqual(getattr(twin, name)(*given), outcome(getattr(tried, name), *given))
                    if depth < 3 and draw.randrange(3) == 0:
                        before = shown_yard(tried)
                        self.try_blindly(draw, tried)
                        self.assertEqual(before, shown_yard(tried))
                self.assertEqual((twin.holds, twin.version, twin.last), (tried.holds, tried.version, tried.last))
                if draw.randrange(3) == 0:
                    raise Other("x")

            for _ in range(8):
                name, given = drawn_call(draw, rules, tree, 30)
                self.assertEqual(getattr(told, name)(*given), outcome(getattr(yard, name), *given))
                try:
                    yard.tried(lambda tried: work(tried, 1))
                except Other:
                    pass
                self.assertEqual((told.holds, told.version, told.last), (yard.holds, yard.version, yard.last))

    def try_blindly(self, draw, yard):
        desk = Desk(yard)
        lines = [more_blanks(draw, line) for line in ("ask 0 0 0", "leave 1", "undo")]
        with self.assertRaises(ZeroDivisionError):
            yard.tried(lambda tried: [desk.say(line) for line in lines] + [1 // 0])


if __name__ == "__main__":
    unittest.main()
