"""Promise [6]: tree_error and around."""

import random
import unittest

from holdmodes.holds import around, tree_error
from tests.samples import T, all_trees, changed, drawn_trees, odd_values, with_odd_parts
from tests.told import told_around, told_tree_error


class TreeError(unittest.TestCase):

    def check(self, told, value):
        found = tree_error(value)
        self.assertEqual(told, found, value)
        self.assertIs(type(told), type(found), value)

    def test_the_examples(self):
        self.check(None, T)
        self.check(1, (None, 1))

    def test_all_small_trees(self):
        for many in range(1, 7):
            for tree in all_trees(many):
                self.check(None, tree)

    def test_trees_of_one_to_twelve_things(self):
        for tree in drawn_trees(101, 240):
            self.check(None, tree)

    def test_parents_that_are_no_earlier_things(self):
        draw = random.Random(102)
        for tree in drawn_trees(103, 120):
            many = len(tree)
            for at in range(1, many):
                # Of itself, later ones, ones that there are not, negative ones.
                for parent in (at, at + 1, many - 1, many, 12, 10 ** 39, -1, -at, -many, -10 ** 39):
                    if parent < 0 or parent >= at:
                        wrong = tree[:at] + (parent,) + tree[at + 1:]
                        self.check(at, wrong)
                        later = draw.randrange(at, many)
                        self.check(at, wrong[:later] + (wrong[later],) + wrong[later + 1:])
                        self.check(at, wrong[:at + 1] + (None,) * (many - at - 1))

    def test_other_things_in_the_place_of_a_parent(self):
        for tree in drawn_trees(104, 48):
            for at in range(1, len(tree)):
                for parent in (None, True, False, "0", "", (), (0,), [], [0], {}, {0: 0}, ((0,),), 0.0):
                    self.check(at, tree[:at] + (parent,) + tree[at + 1:])

    def test_the_first_item_is_none(self):
        for tree in drawn_trees(105, 48):
            for first in (0, 1, -1, False, True, "", "None", (), (None,), [], {}):
                self.check(0, (first,) + tree[1:])
                self.check(0, (first,) + tuple("x" for _ in tree[1:]))

    def test_the_first_wrong_item_is_told(self):
        draw = random.Random(106)
        for tree in drawn_trees(107, 240):
            value = list(tree)
            for _ in range(draw.randint(1, 4)):
                value[draw.randrange(len(value))] = draw.choice([None, -1, 0, 1, 11, 12, True, "1", []])
            self.check(told_tree_error(tuple(value)), tuple(value))

    def test_numbers_of_items_that_trees_do_not_have(self):
        self.check("tree", ())
        for many in (13, 14, 100, 10000):
            self.check("tree", (None,) + (0,) * (many - 1))
        self.check("tree", (0,) * 13)
        self.check("tree", (None,) * 13)
        self.check(None, (None,) + (0,) * 11)

    def test_lists(self):
        for tree in drawn_trees(108, 24):
            self.check("tree", list(tree))
            self.check(0, (tree,))
            self.check("tree", [])

    def test_trees_with_one_part_changed(self):
        for tree in drawn_trees(109, 36):
            for value in changed(tree):
                self.check(told_tree_error(value), value)

    def test_values_of_all_kinds(self):
        for value in odd_values():
            for changed_one in with_odd_parts(T, value):
                self.check(told_tree_error(changed_one), changed_one)


class Around(unittest.TestCase):

    def check_all(self, tree):
        for thing in range(len(tree)):
            found = around(tree, thing)
            self.assertEqual(told_around(tree, thing), found, (tree, thing))
            self.assertIs(tuple, type(found))

    def test_the_example(self):
        self.assertEqual((0, 1, 3), around(T, 3))

    def test_each_thing_of_all_small_trees(self):
        for many in range(1, 7):
            for tree in all_trees(many):
                self.check_all(tree)

    def test_each_thing_of_trees_of_one_to_twelve_things(self):
        for tree in drawn_trees(111, 240):
            self.check_all(tree)

    def test_a_path_and_a_star(self):
        path = (None,) + tuple(range(11))
        star = (None,) + (0,) * 11
        for thing in range(12):
            self.assertEqual(tuple(range(thing + 1)), around(path, thing))
            self.assertEqual((0, thing) if thing else (0,), around(star, thing))


if __name__ == "__main__":
    unittest.main()
