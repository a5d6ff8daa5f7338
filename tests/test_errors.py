"""Point [3] and the interface: the classes of errors."""

import inspect
import unittest

from fairarcs import errors
from fairarcs.errors import BeadError, NotDivisible

PLAIN_NAMES = [
    "InvalidStrand", "InvalidPlace", "InvalidIndex", "InvalidLength", "InvalidDark", "InvalidNumber",
    "InvalidWeights", "InvalidShares", "InvalidPersons", "InvalidSight", "InvalidSights", "InvalidStretch",
    "Contradiction", "InvalidArc", "NothingToUndo", "TooManyTakes", "InvalidText"]
NAMES = PLAIN_NAMES + ["NotDivisible"]


class ErrorClasses(unittest.TestCase):
    def test_the_classes_are_those_of_the_interface(self):
        found = [name for name, _ in inspect.getmembers(errors, inspect.isclass)]
        self.assertEqual(sorted(found), sorted(NAMES + ["BeadError"]))

    def test_each_class_is_defined_in_its_file(self):
        for name in NAMES + ["BeadError"]:
            with self.subTest(name):
                self.assertEqual(getattr(errors, name).__module__, "fairarcs.errors")
                self.assertEqual(getattr(errors, name).__name__, name)

    def test_bead_error_is_a_value_error(self):
        self.assertEqual(BeadError.__bases__, (ValueError,))

    def test_each_error_is_a_bead_error_and_a_value_error(self):
        for name in NAMES:
            with self.subTest(name):
                self.assertTrue(issubclass(getattr(errors, name), BeadError))
                self.assertTrue(issubclass(getattr(errors, name), ValueError))

    def test_no_error_is_a_superclass_of_another_one(self):
        for name in NAMES:
            for other in NAMES:
                if name != other:
                    self.assertFalse(issubclass(getattr(errors, other), getattr(errors, name)), (name, other))

    def test_each_error_can_be_called_as_the_interface_shows(self):
        for name in PLAIN_NAMES + ["BeadError"]:
            with self.subTest(name):
                error = getattr(errors, name)()
                self.assertIs(error.__class__, getattr(errors, name))
                with self.assertRaises(BeadError):
                    raise error

    def test_not_divisible_keeps_its_index(self):
        for index in (0, 1, 7, 10 ** 40):
            self.assertEqual(NotDivisible(index).index, index)
            self.assertEqual(NotDivisible(index=index).index, index)
        with self.assertRaises(NotDivisible) as caught:
            raise NotDivisible(3)
        self.assertEqual(caught.exception.index, 3)
        self.assertEqual(list(inspect.signature(NotDivisible).parameters), ["index"])

    def test_not_divisible_needs_its_index(self):
        self.assertRaises(TypeError, NotDivisible)
        self.assertRaises(TypeError, NotDivisible, 1, 2)


if __name__ == "__main__":
    unittest.main()
