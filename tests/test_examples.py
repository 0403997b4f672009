"""The examples of the document hold as they stand: examples.txt has them."""

import doctest
import pathlib
import unittest

from tests.samples import I, R, S, T, X


class Examples(unittest.TestCase):

    def test_they_hold(self):
        path = pathlib.Path(__file__).resolve().parent / "examples.txt"
        names = {"R": R, "S": S, "X": X, "I": I, "T": T}
        found = doctest.testfile(str(path), module_relative=False, globs=names, encoding="utf-8")
        self.assertEqual(0, found.failed)
        self.assertEqual(31, found.attempted)

    def test_what_they_use(self):
        self.assertEqual(((3, ((0, 0), (2, 2))), (None, 0, 0, 1)), (R, T))
        self.assertEqual((((0,), (0,)), ((1,), (1,)), ((), (1,))), (S, X, I))


if __name__ == "__main__":
    unittest.main()
