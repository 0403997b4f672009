"""Promises [19] and [20]: texts of modes, rules and trees, written and read."""

import random
import unittest

from holdmodes.errors import BadText
from holdmodes.texts import mode_text, read_mode, read_rules, read_tree, rules_text, tree_text
from tests.said import PIECES, changed_pieces, changed_signs, more_blanks
from tests.samples import (
    R, T, act_pairs, all_modes, all_rules, all_trees, drawn_mode, drawn_rules, drawn_trees, nested, odd_values,
)
from tests.told_yards import (
    outcome, raises, told_mode_text, told_modes_by_text, told_read_mode, told_read_rules, told_read_tree,
    told_rules_text, told_tree_text,
)

PATH = (None,) + tuple(range(11))


class ReadCase(unittest.TestCase):

    def check(self, told, function, *given):
        found = outcome(function, *given)
        self.assertEqual(told, found, (function.__name__, given))
        self.assertIs(type(told[-1]), type(found[-1]))

    def check_refused(self, number, function, *given):
        with self.assertRaises(BadText) as caught:
            function(*given)
        self.assertEqual(number, caught.exception.number, given)
        self.assertIs(type(number), type(caught.exception.number))


class Written(unittest.TestCase):

    def test_the_examples(self):
        self.assertEqual("0/01", mode_text(((0,), (0, 1))))
        self.assertEqual(("3 00 22", ". 0 0 1"), (rules_text(R), tree_text(T)))

    def test_all_modes(self):
        texts = set()
        for mode in all_modes(6):
            self.assertEqual(told_mode_text(mode), mode_text(mode))
            texts.add(mode_text(mode))
        self.assertEqual(3 ** 6, len(texts))
        for mode, text in ((((), ()), "-/-"), (((), (0, 5)), "-/05"), (((3,), (3,)), "3/3"),
                           (((0, 1, 2, 3, 4, 5), (0, 1, 2, 3, 4, 5)), "012345/012345")):
            self.assertEqual(text, mode_text(mode))

    def test_rules(self):
        for rules in all_rules(1) + all_rules(2) + all_rules(3) + drawn_rules(1401, 240):
            self.assertEqual(told_rules_text(rules), rules_text(rules))
        self.assertEqual(("1", "6", "1 00", "2 00 01 11"), tuple(
            rules_text(rules) for rules in ((1, ()), (6, ()), (1, ((0, 0),)), (2, tuple(act_pairs(2))))))
        self.assertEqual("6 00 01 02 03 04 05 11 12 13 14 15 22 23 24 25 33 34 35 44 45 55",
                         rules_text((6, tuple(act_pairs(6)))))

    def test_trees(self):
        for many in range(1, 7):
            for tree in all_trees(many):
                self.assertEqual(told_tree_text(tree), tree_text(tree))
        for tree in drawn_trees(1402, 240):
            self.assertEqual(told_tree_text(tree), tree_text(tree))
        self.assertEqual(". 0 1 2 3 4 5 6 7 8 9 10", tree_text(PATH))
        self.assertEqual((".", ". 0"), (tree_text((None,)), tree_text((None, 0))))

    def test_they_are_strings(self):
        for text in (mode_text(((), ())), rules_text((1, ())), tree_text((None,))):
            self.assertIs(str, type(text))


class ReadBack(ReadCase):

    def test_modes(self):
        for acts in range(1, 7):
            for mode in all_modes(acts):
                self.check(("returns", mode), read_mode, (acts, ()), mode_text(mode))

    def test_rules(self):
        draw = random.Random(1411)
        for rules in all_rules(1) + all_rules(2) + all_rules(3) + drawn_rules(1412, 240):
            self.check(("returns", rules), read_rules, rules_text(rules))
            self.check(("returns", rules), read_rules, more_blanks(draw, rules_text(rules)))

    def test_trees(self):
        draw = random.Random(1413)
        for tree in [tree for many in range(1, 6) for tree in all_trees(many)] + drawn_trees(1414, 240):
            self.check(("returns", tree), read_tree, tree_text(tree))
            self.check(("returns", tree), read_tree, more_blanks(draw, tree_text(tree)))

    def test_blanks_ahead_behind_and_between(self):
        self.check(("returns", R), read_rules, " 3 00  22")
        self.check(("returns", R), read_rules, "   3   00   22   ")
        self.check(("returns", (1, ())), read_rules, " 1 ")
        self.check(("returns", T), read_tree, "  . 0   0 1 ")
        self.check(("returns", (None,)), read_tree, " . ")
        self.check(("returns", (None,)), read_tree, " " * 1999 + ".")


class ReadMode(ReadCase):

    def check_text(self, rules, text):
        self.check(told_read_mode(rules, text), read_mode, rules, text)

    def test_the_example(self):
        self.assertEqual(((), (1,)), read_mode(R, "-/1"))

    def test_texts_with_signs_changed(self):
        draw = random.Random(1421)
        for rules in drawn_rules(1422, 48):
            for text in changed_signs(mode_text(drawn_mode(draw, rules[0]))):
                self.check_text(rules, text)

    def test_all_short_texts(self):
        for acts in (1, 2, 3):
            rules = (acts, ())
            texts = [""]
            for _ in range(5):
                texts = [text + sign for text in texts for sign in "01/-"]
                for text in texts:
                    self.check_text(rules, text)

    def test_texts_of_modes_of_other_rules(self):
        for acts in range(1, 7):
            modes = told_modes_by_text((acts, ()))
            for mode in all_modes(6)[::7]:
                text = mode_text(mode)
                self.assertIs(text in modes, outcome(read_mode, (acts, ()), text)[0] == "returns")

    def test_texts_of_no_mode(self):
        for text in ("", " ", "/", "0", "-", "0/", "/0", "-/", "/-", "0/-", "0/1", "1/0", "10/01", "0/10", "00/0",
                     "0/00", "0/0/0", "0//0", "0-/0", "-0/0", "--/0", "-/--", " 0/0", "0/0 ", "0 /0", "0/ 0", "0/0\n",
                     "\n0/0", "0/3", "3/3", "0\\0", "a/0", "0/a", "+0/0", "0/0.", "0:0", "0,1/0,1", "(0)/(0)",
                     "x" * 2000, "/" * 2000, "0" * 2000, "0/" + "0" * 1998, "0/012" + "2" * 1000):
            self.check_refused(0, read_mode, R, text)

    def test_values_that_are_no_strings(self):
        for value in odd_values() + [("-", "1"), ["0/0"], ((0,), (0,)), 0, 1, ("0/0",), {"0/0": 0}]:
            if type(value) is not str:
                self.check_refused(None, read_mode, R, value)
            else:
                self.check_text(R, value)


class ReadRules(ReadCase):

    def check_text(self, text):
        self.check(told_read_rules(text), read_rules, text)

    def test_texts_with_signs_changed(self):
        for rules in drawn_rules(1431, 24):
            for text in changed_signs(rules_text(rules)):
                self.check_text(text)

    def test_texts_with_pieces_changed(self):
        for rules in drawn_rules(1432, 36):
            for text in changed_pieces(rules_text(rules)):
                self.check_text(text)

    def test_drawn_pieces(self):
        draw = random.Random(1433)
        for _ in range(3000):
            self.check_text(" ".join(draw.choices(PIECES + ("4", "5", "02", "33"), k=draw.randrange(5))))

    def test_all_rows_of_three_pieces(self):
        pieces = ["1", "2", "3", "00", "01", "11", "10", "12", "0", "000"]
        for first in pieces:
            for second in pieces:
                for third in pieces:
                    self.check_text(f"{first} {second} {third}")

    def test_the_first_piece_that_cannot_stand_there(self):
        for text, number in (
            ("0", 0), ("7", 0), ("9 00", 0), ("03 00", 0), ("33 00", 0), ("-3", 0), ("+3", 0), ("3. 00", 0), (". 0", 0),
            ("00 3", 0), ("3 0", 1), ("3 000", 1), ("3 10", 1), ("3 03", 1), ("3 33", 1), ("3 0a", 1), ("3 -1", 1),
            ("3 3", 1), ("3 0 0", 1), ("1 01", 1), ("1 11", 1), ("3 00 00", 2), ("3 01 00", 2), ("3 00 22 11", 3),
            ("3 00 22 22", 3), ("3 00 xx 11 00", 2), ("3 00\n22", 1), ("3\n", 0), ("3\n00", 0), ("3 00 22\n", 2),
            ("3 00 \n 22", 2), ("3 00,22", 1), ("3 0 0 2 2", 1), ("7 xx", 0), ("6 00 11 10", 3), ("2 00 01 11 11", 4),
        ):
            self.check_refused(number, read_rules, text)

    def test_no_piece(self):
        for text in ("", " ", "  ", " " * 2000):
            self.check_refused(0, read_rules, text)

    def test_all_pairs_and_one_more(self):
        text = rules_text((6, tuple(act_pairs(6))))
        for piece in ("00", "55", "56", "66", "45", "6", ""):
            self.check_text(text + " " + piece)
        self.check_refused(22, read_rules, text + " 55")

    def test_long_texts(self):
        self.check_refused(1, read_rules, "6 " + "0" * 1998)
        self.check_refused(0, read_rules, "1" * 2000)
        self.check_refused(2, read_rules, "6" + " 00" * 660)
        self.check_refused(0, read_rules, "x " * 1000)

    def test_values_that_are_no_strings(self):
        for value in odd_values() + [R, [3, "00"], ("3 00",), 3, {"3": "00"}, ["3 00 22"]]:
            if type(value) is not str:
                self.check_refused(None, read_rules, value)
            else:
                self.check_text(value)


class ReadTree(ReadCase):

    def check_text(self, text):
        self.check(told_read_tree(text), read_tree, text)

    def test_texts_with_signs_changed(self):
        for tree in drawn_trees(1441, 48):
            for text in changed_signs(tree_text(tree)):
                self.check_text(text)

    def test_texts_with_pieces_changed(self):
        for tree in drawn_trees(1442, 48):
            for text in changed_pieces(tree_text(tree)):
                self.check_text(text)

    def test_drawn_pieces(self):
        draw = random.Random(1443)
        for _ in range(3000):
            self.check_text(" ".join((".",) + tuple(draw.choices(PIECES[:12] + ("0",) * 20, k=draw.randrange(14)))))

    def test_each_number_at_each_place(self):
        for many in range(1, 12):
            for parent in range(-1, 101):
                text = tree_text(PATH[:many]) + " " + str(parent)
                self.check(("returns", PATH[:many] + (parent,)) if 0 <= parent < many else raises("BadText", many),
                           read_tree, text)

    def test_a_nought_ahead(self):
        for parent in range(11):
            text = tree_text(PATH[:11])
            self.check_refused(11, read_tree, f"{text} 0{parent}")
            self.check_refused(11, read_tree, f"{text} 00{parent}")
            self.check(("returns", PATH[:11] + (parent,)), read_tree, f"{text} {parent}")

    def test_a_thirteenth_piece(self):
        for tree in drawn_trees(1444, 120):
            for piece in ("0", "11", "12", ".", "x", "00"):
                if len(tree) == 12:
                    self.check_refused(12, read_tree, f"{tree_text(tree)} {piece}")
                    self.check_refused(12, read_tree, f"{tree_text(tree)} {piece} {piece}")
        self.check_refused(12, read_tree, "." + " 0" * 999)
        self.check_refused(11, read_tree, "." + " 0" * 10 + " 11 0")

    def test_the_first_piece_that_cannot_stand_there(self):
        for text, number in (
            ("0", 0), ("..", 0), ("None", 0), ("-", 0), ("0 .", 0), (". .", 1), (". 1", 1), (". 0 2", 2), (". 0 00", 2),
            (". 00", 1), (". 0 01", 2), (". -0", 1), (". +0", 1), (". 0 x 0", 2), (". 0 0 0 9", 4), (".0", 0), (". 0. 0", 1),
            (". 0\n0", 1), (".\n", 0), (". 0 \n", 2), (". 0 0\n", 2), (". None", 1), (". 0 0,1", 2), (". 0 000", 2),
            (". 0 001", 2), (". 0 1.", 2),
        ):
            self.check_refused(number, read_tree, text)

    def test_no_piece(self):
        for text in ("", " ", "   ", " " * 2000):
            self.check_refused(0, read_tree, text)

    def test_long_texts(self):
        self.check_refused(1, read_tree, ". " + "0" * 1998)
        self.check_refused(1, read_tree, ". " + "9" * 1998)
        self.check_refused(0, read_tree, "." * 2000)

    def test_signs_that_are_digits_elsewhere(self):
        for sign in ("\u0661", "\u00b2", "\uff11"):
            self.check_refused(0, read_mode, R, f"-/{sign}")
            self.check_refused(0, read_rules, sign)
            self.check_refused(1, read_rules, f"3 0{sign}")
            self.check_refused(2, read_tree, f". 0 {sign}")

    def test_values_that_are_no_strings(self):
        for value in odd_values() + [T, [".", "0"], (". 0",), (None,), {".": 0}, nested(12, lambda value: [value])]:
            if type(value) is not str:
                self.check_refused(None, read_tree, value)
            else:
                self.check_text(value)


if __name__ == "__main__":
    unittest.main()
