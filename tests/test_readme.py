"""The sessions in README.md show what the program returns."""

import doctest
import pathlib
import unittest


class Readme(unittest.TestCase):

    def test_its_sessions_hold(self):
        path = pathlib.Path(__file__).resolve().parent.parent / "README.md"
        found = doctest.testfile(str(path), module_relative=False, encoding="utf-8")
        self.assertEqual(0, found.failed)
        self.assertGreater(found.attempted, 0)


if __name__ == "__main__":
    unittest.main()
