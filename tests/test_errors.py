"""Promise [25], and what [3] says of errors: their fields and what they derive from."""

import unittest

from holdmodes import errors
from tests.samples import FIELDS, HOLD_ERRORS, LOOKUP_ERRORS, odd_values


def made(name, values):
    """The error with values for its fields, as many as it has."""
    return getattr(errors, name)(*values[:len(FIELDS[name])])


class Derived(unittest.TestCase):

    def test_hold_error_is_a_value_error_alone(self):
        self.assertEqual((ValueError,), errors.HoldError.__bases__)
        self.assertFalse(issubclass(errors.HoldError, LookupError))

    def test_hold_errors_stand_directly_under_it(self):
        for name in HOLD_ERRORS:
            self.assertEqual((errors.HoldError,), getattr(errors, name).__bases__, name)
            self.assertFalse(issubclass(getattr(errors, name), LookupError), name)

    def test_four_are_lookup_errors_alone(self):
        for name in LOOKUP_ERRORS:
            self.assertEqual((LookupError,), getattr(errors, name).__bases__, name)
            self.assertFalse(issubclass(getattr(errors, name), errors.HoldError), name)
            self.assertFalse(issubclass(getattr(errors, name), ValueError), name)

    def test_there_are_no_other_errors(self):
        found = {name for name in dir(errors) if isinstance(getattr(errors, name), type)}
        self.assertEqual(set(FIELDS) | {"HoldError"}, found)

    def test_each_is_caught_by_what_it_stands_under(self):
        for name in FIELDS:
            base = errors.HoldError if name in HOLD_ERRORS else LookupError
            error = made(name, (0, 1))
            with self.assertRaises(base) as caught:
                raise error
            self.assertIs(error, caught.exception)
            self.assertIs(getattr(errors, name), type(caught.exception))


class Fields(unittest.TestCase):

    def test_fields_are_the_arguments_as_they_are(self):
        values = odd_values() + [0, 1, "word", (), (1, 2), [1, [2]]]
        for at, value in enumerate(values):
            other = values[at - 1]
            for name, fields in FIELDS.items():
                error = made(name, (value, other))
                for field, given in zip(fields, (value, other)):
                    self.assertIs(given, getattr(error, field), (name, field))

    def test_an_error_changes_no_argument(self):
        for name in FIELDS:
            rows = [[1, [2]], {"a": [3]}]
            made(name, rows)
            self.assertEqual([[1, [2]], {"a": [3]}], rows, name)

    def test_errors_of_one_class_share_no_fields(self):
        for name, fields in FIELDS.items():
            one, other = made(name, ("a", "b")), made(name, ("c", "d"))
            for field, given in zip(fields, ("a", "b")):
                self.assertEqual(given, getattr(one, field), (name, field))
            for field, given in zip(fields, ("c", "d")):
                self.assertEqual(given, getattr(other, field), (name, field))

    def test_too_few_or_too_many_arguments_are_refused(self):
        for name, fields in FIELDS.items():
            for many in range(4):
                if fields and many != len(fields):
                    with self.assertRaises(TypeError, msg=(name, many)):
                        getattr(errors, name)(*range(many))

    def test_each_field_by_its_name(self):
        self.assertEqual("m", errors.BadMode("m").mode)
        self.assertEqual(3, errors.BadText(3).number)
        self.assertEqual(("rules", "acts"), (errors.BadYard("rules", "acts").word, errors.BadYard("rules", "acts").error))
        self.assertEqual((2, 1), (errors.Barred(2, 1).thing, errors.Barred(2, 1).other))
        self.assertEqual(6, errors.NoAct(6).act)
        self.assertEqual(3, errors.NoHold(3).holder)
        self.assertEqual(4, errors.NoHolder(4).holder)
        self.assertEqual(12, errors.NoThing(12).thing)
        self.assertIsInstance(errors.Full(), errors.HoldError)
        self.assertIsInstance(errors.NothingToUndo(), errors.HoldError)


if __name__ == "__main__":
    unittest.main()
