"""Promises [21] and [22]: a desk, what it answers, and its history."""

import random
import unittest

from holdmodes.desks import Desk
from holdmodes.holds import fault
from holdmodes.yards import Yard
from tests.drawn import tree_cases
from tests.said import changed_pieces, changed_signs, drawn_call, more_blanks, small_mode
from tests.samples import I, R, T, X, drawn_mode, held_yard, odd_values
from tests.test_deeds import NONE, full_yard
from tests.test_yards import done_yard, shown_yard
from tests.told_yards import ToldDesk, ToldYard, outcome, told_mode_text

LINES = ("ask 0 3 1", "take 0 3 0/01", "leave 0", "undo", "may 0 3", "could 0 3 1", "on 3", "last", "fair", "count")
PATH = (None,) + tuple(range(11))


def drawn_line(draw, rules, tree):
    """A line for a yard of these rules and this tree, mostly one whose numbers there are."""
    def number(many):
        found = draw.randrange(many) if draw.randrange(12) else draw.choice((many, 9, 10, 11, 12, 99))
        return f"{found:02d}" if draw.randrange(4) == 0 else str(found)

    holder, thing = number(4), number(len(tree))
    act = str(draw.randrange(rules[0]) if draw.randrange(12) else draw.randrange(10))
    mode = told_mode_text(small_mode(draw, rules[0]) if draw.randrange(8) else drawn_mode(draw, 6))
    lines = {
        "ask": f"ask {holder} {thing} {act}", "take": f"take {holder} {thing} {mode}", "leave": f"leave {holder}",
        "undo": "undo", "may": f"may {holder} {thing}", "could": f"could {holder} {thing} {act}", "on": f"on {thing}",
        "last": "last", "fair": "fair", "count": "count",
    }
    return lines[draw.choice(("ask",) * 6 + ("take",) * 5 + ("leave", "undo", "on", "on") + tuple(lines))]


class DeskCase(unittest.TestCase):

    def check_says(self, desk, *pairs):
        """The lines and what is answered to each of them."""
        for line, answer in pairs:
            found = desk.say(line)
            self.assertEqual(answer, found, line)
            self.assertIs(str, type(found))

    def check_line(self, line, make=held_yard):
        """One line at a new yard, against the told desk, and whether the yard stands as the told one then."""
        yard, told = make(), self.told(make)
        answer = Desk(yard).say(line)
        self.assertEqual(ToldDesk(told).say(line), answer, repr(line))
        self.assertEqual((told.holds, told.version, told.last), (yard.holds, yard.version, yard.last), repr(line))
        return answer

    def told(self, make):
        yard = make()
        told = ToldYard(yard.rules, yard.tree)
        while yard.version > 0:
            told.kept.insert(1, {(holder, thing): mode for holder, thing, mode in yard.holds})
            yard.undo()
        told.last = make().last
        return told


class Answers(DeskCase):

    def test_the_example(self):
        self.check_says(
            Desk(Yard(R, T)), ("ask 0 3 1", "ok 1"), ("could 1 1 0", "1 0"), ("ask 1 1 0", "no Barred"),
            ("on 0", "0:-/1"), ("take 1 2 1/1", "ok 2"), ("last", "0 2"), ("may 0 3", "1"), ("leave 2", "no NoHold"),
            ("go", "what"))

    def test_each_line(self):
        told = ("ok 3", "ok 3", "ok 3", "ok 1", "1", "yes", "0:1/1", "0 2", "yes", "5 holds of 2 holders, version 2")
        for line, answer in zip(LINES, told):
            self.check_says(Desk(held_yard()), (line, answer))
            self.assertEqual(answer, self.check_line(line))

    def test_a_deed_is_done_at_this_very_yard(self):
        yard = Yard(R, T)
        desk = Desk(yard)
        self.check_says(desk, ("ask 0 3 1", "ok 1"))
        self.assertEqual((((0, 0, I), (0, 1, I), (0, 3, X)), 1), (yard.holds, yard.version))
        self.check_says(desk, ("take 1 2 2/12", "ok 2"))
        self.assertEqual(((1, ((2,), (1, 2))),), yard[2])
        self.check_says(desk, ("leave 0", "ok 3"))
        self.assertEqual((3, (0, 1, 3), 2), (yard.version, yard.last, len(yard)))
        self.check_says(desk, ("undo", "ok 2"), ("undo", "ok 1"), ("undo", "ok 0"), ("undo", "no NothingToUndo"))
        self.assertEqual((), yard.holds)

    def test_what_is_done_at_the_yard_is_seen(self):
        yard = Yard(R, T)
        desk = Desk(yard)
        yard.ask(2, 1, 0)
        self.check_says(desk, ("count", "2 holds of 1 holders, version 1"), ("on 1", "2:0/0"), ("last", "0 1"))
        yard.undo()
        self.check_says(desk, ("count", "0 holds of 0 holders, version 0"), ("on 1", "nothing"), ("last", "0 1"))

    def test_may(self):
        self.check_says(Desk(held_yard()), ("may 0 3", "1"), ("may 0 0", "-"), ("may 3 3", "-"), ("may 1 2", "1"))
        yard = Yard((6, ()), (None, 0))
        yard.take(3, 0, ((1, 4, 5), (1, 2, 4, 5)))
        yard.take(3, 1, ((0,), (0,)))
        self.check_says(Desk(yard), ("may 3 0", "145"), ("may 3 1", "0145"), ("may 03 01", "0145"))

    def test_could(self):
        self.check_says(Desk(held_yard()), ("could 1 1 0", "1 0"), ("could 2 0 1", "0 0"), ("could 0 2 1", "2 1"),
                        ("could 0 3 1", "yes"), ("could 3 3 2", "3 0"))
        yard = Yard((1, ()), PATH)
        yard.ask(2, 11, 0)
        self.check_says(Desk(yard), ("could 3 11 0", "11 2"), ("could 3 10 0", "10 2"), ("could 2 11 0", "yes"))

    def test_on(self):
        desk = Desk(held_yard())
        self.check_says(desk, ("on 0", "0:-/1 1:-/1"), ("on 1", "0:-/1"), ("on 2", "1:1/1"), ("on 3", "0:1/1"))
        self.check_says(Desk(Yard(R, T)), ("on 0", "nothing"), ("on 3", "nothing"))
        yard = Yard((2, ((0, 0), (0, 1), (1, 1))), (None,))
        for holder, mode in ((3, ((0, 1), (0, 1))), (1, NONE), (0, ((1,), (0, 1)))):
            yard.take(holder, 0, mode)
        self.check_says(Desk(yard), ("on 0", "0:1/01 1:-/- 3:01/01"))

    def test_last(self):
        yard = Yard((1, ()), PATH)
        desk = Desk(yard)
        self.check_says(desk, ("last", "nothing"), ("ask 0 11 0", "ok 1"), ("last", "0 1 2 3 4 5 6 7 8 9 10 11"),
                        ("ask 0 11 0", "ok 2"), ("last", "nothing"), ("ask 0 10 0", "ok 3"), ("last", "10"),
                        ("ask 1 11 0", "no Barred"), ("last", "10"), ("undo", "ok 2"), ("last", "10"), ("undo", "ok 1"),
                        ("last", "nothing"))

    def test_fair_and_count(self):
        for yard in (Yard(R, T), held_yard(), full_yard()):
            self.check_says(Desk(yard), ("fair", "yes"), ("count", str(yard)))

    def test_errors_by_their_names(self):
        self.check_says(
            Desk(held_yard()), ("ask 4 0 0", "no NoHolder"), ("ask 0 4 0", "no NoThing"), ("ask 0 0 3", "no NoAct"),
            ("ask 2 0 0", "no Barred"), ("take 4 9 -/-", "no NoHolder"), ("take 3 9 -/-", "no NoThing"),
            ("take 2 0 1/1", "no Barred"), ("leave 4", "no NoHolder"), ("leave 3", "no NoHold"),
            ("may 4 9", "no NoHolder"), ("may 0 9", "no NoThing"), ("could 99 9 9", "no NoHolder"),
            ("could 0 99 9", "no NoThing"), ("could 0 0 9", "no NoAct"), ("on 4", "no NoThing"), ("on 12", "no NoThing"),
            ("on 99", "no NoThing"))
        self.check_says(
            Desk(full_yard()), ("ask 4 9 9", "no Full"), ("take 4 9 -/-", "no Full"), ("leave 9", "no Full"),
            ("could 0 0 5", "yes"), ("undo", "ok 24"), ("leave 3", "ok 25"), ("leave 3", "no Full"),
            ("take 0 0 9/9", "what"))
        self.check_says(Desk(Yard(R, T)), ("undo", "no NothingToUndo"), ("leave 0", "no NoHold"))

    def test_an_error_changes_nothing_at_the_yard(self):
        yard = held_yard()
        desk = Desk(yard)
        for line in ("ask 4 0 0", "ask 2 0 0", "leave 3", "go", "take 0 0 7/7", "on 9", None, "", "undo 1", "may 9 9"):
            desk.say(line)
            self.assertEqual(shown_yard(held_yard()), shown_yard(yard))

    def test_drawn_lines(self):
        found = []
        for rules, tree, draw in tree_cases(1501, 360):
            yard = Yard(rules, tree)
            desk, told = Desk(yard), ToldDesk(ToldYard(rules, tree))
            for _ in range(16):
                line = drawn_line(draw, rules, tree)
                line = more_blanks(draw, line) if draw.randrange(3) == 0 else line
                answer = desk.say(line)
                self.assertEqual(told.say(line), answer, (rules, tree, line))
                self.assertEqual(told.history, desk.history)
                shown = told.yard.holds, told.yard.version, told.yard.last
                self.assertEqual(shown, (yard.holds, yard.version, yard.last))
                self.assertIsNone(fault(rules, tree, yard.holds))
                found.append(answer)
        for answer in ("ok 1", "ok 5", "no Barred", "no NoHolder", "no NoThing", "no NoAct", "no NoHold",
                       "no NothingToUndo", "yes", "nothing", "what", "-", "0 0", "0 1"):
            self.assertGreater(found.count(answer), 5, answer)


class Forms(DeskCase):

    def test_lines_with_signs_changed(self):
        for line in LINES:
            for text in changed_signs(line):
                self.check_line(text)

    def test_lines_with_pieces_changed(self):
        for line in LINES:
            for text in changed_pieces(line):
                self.check_line(text)

    def test_all_words_with_all_others_pieces(self):
        for line in LINES:
            for other in LINES + ("go 0", "go", "", "ask", "0 3 1"):
                word = line.split(" ")[0]
                self.check_line(" ".join([word] + other.split(" ")[1:]))
                self.check_line(f"{line} {other}")

    def test_noughts_ahead(self):
        self.check_says(Desk(held_yard()), ("may 00 03", "1"), ("may 0 03", "1"), ("on 03", "0:1/1"),
                        ("could 01 01 0", "1 0"), ("ask 00 03 1", "ok 3"), ("take 02 02 -/-", "ok 4"),
                        ("leave 02", "ok 5"))
        for line in ("may 000 3", "may 0 003", "on 003", "ask 0 3 01", "could 0 3 01", "leave 000", "take 0 3 00/00",
                     "on 0x3", "could 1 1 00", "ask 0 3 12", "take 0 3 00/1"):
            self.check_says(Desk(held_yard()), (line, "what"))

    def test_numbers_in_two_digits(self):
        yard = Yard((1, ()), PATH)
        self.check_says(Desk(yard), ("ask 3 11 0", "ok 1"), ("on 11", "3:0/0"), ("on 10", "3:-/0"), ("may 3 11", "0"),
                        ("take 03 09 0/0", "ok 2"), ("on 12", "no NoThing"), ("ask 10 0 0", "no NoHolder"))

    def test_more_blanks(self):
        draw = random.Random(1511)
        for line in LINES:
            told = self.check_line(line)
            for _ in range(12):
                self.assertEqual(told, self.check_line(more_blanks(draw, line)))
            self.assertEqual(told, self.check_line(f"   {line}   "))

    def test_line_feeds_are_signs_like_others(self):
        for line in LINES:
            for text in (line + "\n", "\n" + line, line + " \n", "\n " + line, line.replace(" ", "\n"),
                         line.replace(" ", " \n ")):
                if text != line:
                    self.check_says(Desk(held_yard()), (text, "what"))

    def test_great_letters(self):
        for line in LINES:
            for text in (line.upper(), line.title(), line.swapcase()):
                self.check_says(Desk(held_yard()), (text, "what"))

    def test_pieces_left_out_or_twice(self):
        for line in LINES:
            pieces = line.split(" ")
            for at in range(len(pieces)):
                self.check_says(Desk(held_yard()), (" ".join(pieces[:at] + pieces[at + 1:]), "what"),
                                (" ".join(pieces[:at] + [pieces[at]] + pieces[at:]), "what"))

    def test_modes_that_are_none_of_the_rules(self):
        for text in ("0/1", "1/0", "3/3", "-/3", "0/10", "0", "-", "", "/", "0/0/0", "00/0", "-/00", "0-/0", "0/0\n",
                     "a/b"):
            for line in (f"take 0 3 {text}", f"take 9 9 {text}"):
                self.check_says(Desk(held_yard()), (line, "what"))
                self.check_line(line)
        for acts in range(1, 7):
            desk = Desk(Yard((acts, ()), (None,)))
            self.check_says(desk, (f"take 0 0 -/{acts - 1}", "ok 1"), (f"take 0 0 -/{acts}", "what"), ("count",
                            "1 holds of 1 holders, version 1"))

    def test_none_of_these(self):
        for line in ("", " ", "    ", "go", "what", "ok 1", "no Barred", "tried", "holds", "version", "rules", "tree",
                     "say count", "history", "len", "str", "undo 0", "undo undo", "last 0", "fair 1", "count 1",
                     "count fair", "leave", "leave 0 0", "on", "on 0 0", "ask 0 3", "ask 0 3 1 1", "asks 0 3 1",
                     "as 0 3 1", "ask-0-3-1", "ask 0 3 a", "ask a 3 1", "ask 0 -3 1", "ask +0 3 1", "ask 0 3. 1",
                     "ask 0,3,1", "0 ask 3 1", "take 0 3", "take 0 0/0 3", "may 0", "could 0 3", "__init__", "undo;",
                     "undo\n", "x" * 2000, " " * 2000, "on " + "0" * 1997):
            self.check_says(Desk(held_yard()), (line, "what"))
            self.check_line(line)

    def test_values_that_are_no_strings(self):
        for value in odd_values() + [("undo",), ["undo"], {"undo": 0}, 0, 3, ("ask", 0, 3, 1), ["ask 0 3 1"], b"undo"]:
            yard = held_yard()
            desk = Desk(yard)
            found = desk.say(value)
            self.assertEqual("what", found)
            told = value if type(value) is str else None
            self.assertEqual(((told, "what"),), desk.history)
            self.assertIs(told, desk.history[0][0])
            self.assertEqual(shown_yard(held_yard()), shown_yard(yard))

    def test_by_its_name(self):
        self.assertEqual("ok 1", Desk(yard=Yard(R, T)).say(line="ask 0 3 1"))


class History(DeskCase):

    def test_at_first_there_is_nothing(self):
        self.assertEqual((), Desk(Yard(R, T)).history)
        self.assertIs(tuple, type(Desk(held_yard()).history))

    def test_the_lines_as_they_were(self):
        desk = Desk(held_yard())
        lines = (" undo ", "UNDO", "", "count\n", "go  on", "on 00")
        for line in lines:
            desk.say(line)
        self.assertEqual(tuple(zip(lines, ("ok 1", "what", "what", "what", "what", "0:-/1"))), desk.history)

    def test_the_last_ten_in_order(self):
        desk, said = Desk(Yard(R, T)), []
        for k in range(35):
            line = ("count", "ask 0 0 2", "undo", None, "go", f"on {k}", 3, "ask 9 0 0")[k % 8]
            said.append((line if type(line) is str else None, desk.say(line)))
            self.assertEqual(tuple(said[-10:]), desk.history)
            self.assertEqual(min(k + 1, 10), len(desk.history))
            self.assertTrue(all(type(pair) is tuple and len(pair) == 2 for pair in desk.history))

    def test_it_can_only_be_read(self):
        desk = Desk(held_yard())
        desk.say("undo")
        for value in (None, (), desk.history):
            with self.assertRaises(AttributeError):
                desk.history = value
        with self.assertRaises(AttributeError):
            del desk.history
        kept = desk.history
        desk.say("undo")
        self.assertEqual(((("undo", "ok 1"),), (("undo", "ok 1"), ("undo", "ok 0"))), (kept, desk.history))

    def test_what_is_not_said_does_not_stand_in_it(self):
        yard = held_yard()
        desk = Desk(yard)
        yard.undo(), yard.ask(1, 2, 1), yard.may(0, 0), str(yard)
        self.assertEqual((), desk.history)


class Desks(DeskCase):

    def test_two_desks_at_one_yard_and_one_at_another(self):
        yard, other = Yard(R, T), Yard(R, T)
        one, two, three = Desk(yard), Desk(yard), Desk(other)
        self.check_says(one, ("ask 0 3 1", "ok 1"))
        self.check_says(two, ("count", "3 holds of 1 holders, version 1"), ("ask 1 2 1", "ok 2"))
        self.check_says(three, ("count", "0 holds of 0 holders, version 0"), ("ask 0 0 0", "ok 1"))
        self.check_says(one, ("undo", "ok 1"), ("last", "0 2"))
        self.check_says(two, ("undo", "ok 0"), ("undo", "no NothingToUndo"))
        self.check_says(three, ("count", "1 holds of 1 holders, version 1"))
        self.assertEqual((("ask 0 3 1", "ok 1"), ("undo", "ok 1"), ("last", "0 2")), one.history)
        self.assertEqual((4, 3), (len(two.history), len(three.history)))
        self.assertEqual((("ask 0 0 0", "ok 1"),), three.history[1:2])

    def test_a_desk_begins_with_the_yard_as_it_stands(self):
        for rules, tree, draw in tree_cases(1521, 60):
            calls = [drawn_call(draw, rules, tree, 40) for _ in range(8)]
            yard = done_yard(rules, tree, calls)
            before = shown_yard(yard)
            desk = Desk(yard)
            self.assertEqual((before, ()), (shown_yard(yard), desk.history))
            self.check_says(desk, ("count", str(yard)))
            for thing in range(len(tree)):
                row = " ".join(f"{holder}:{told_mode_text(mode)}" for holder, mode in yard[thing])
                self.check_says(desk, (f"on {thing}", row or "nothing"))

    def test_drawn_lines_at_two_desks(self):
        draw = random.Random(1522)
        yard = Yard(R, T)
        told_yard = ToldYard(R, T)
        desks, told = [Desk(yard), Desk(yard)], [ToldDesk(told_yard), ToldDesk(told_yard)]
        for _ in range(400):
            at = draw.randrange(2)
            line = drawn_line(draw, R, T)
            self.assertEqual(told[at].say(line), desks[at].say(line))
            self.assertEqual([desk.history for desk in told], [desk.history for desk in desks])

    def test_lines_and_calls_tell_the_same(self):
        draw = random.Random(1523)
        for rules, tree, _ in tree_cases(1524, 120):
            yard, other = Yard(rules, tree), Yard(rules, tree)
            desk = Desk(yard)
            for _ in range(10):
                name, given = drawn_call(draw, rules, tree, 10 ** 9)
                texts = [told_mode_text(value) if type(value) is tuple else str(value) for value in given]
                found = outcome(getattr(other, name), *given)
                told = f"ok {found[1]}" if found[0] == "returns" else f"no {found[1]}"
                self.check_says(desk, (" ".join([name] + texts), told))
                self.assertEqual(shown_yard(other), shown_yard(yard))


if __name__ == "__main__":
    unittest.main()
