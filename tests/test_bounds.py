"""Promise [24]: the bounds."""

import unittest

from holdmodes import bounds


class Bounds(unittest.TestCase):

    def test_each_bound_has_its_value(self):
        told = {
            "MAX_ACTS": 6, "MAX_DEEDS": 25, "MAX_GROUPED": 6, "MAX_HOLDERS": 4, "MAX_MODES": 12,
            "MAX_PLANNED": 20, "MAX_RAISES": 8, "MAX_STEPS": 8, "MAX_THINGS": 12,
        }
        found = {name: getattr(bounds, name) for name in dir(bounds) if name.startswith("MAX_")}
        self.assertEqual(told, found)

    def test_each_bound_is_an_integer(self):
        for name in dir(bounds):
            if name.startswith("MAX_"):
                self.assertIs(type(getattr(bounds, name)), int, name)


if __name__ == "__main__":
    unittest.main()
