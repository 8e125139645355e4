"""[3]: the refusals, and what they stand under."""

import sys
import unittest

import sharedways
from sharedways import errors


class Refusals(unittest.TestCase):
    def test_ware_error_is_a_value_error(self):
        self.assertEqual(errors.WareError.__bases__, (ValueError,))

    def test_each_refusal_stands_under_ware_error_alone(self):
        for refusal in (errors.BadNet, errors.BadFlow, errors.BadFloor):
            self.assertEqual(refusal.__bases__, (errors.WareError,))

    def test_they_bear_their_names(self):
        for name in ("WareError", "BadNet", "BadFlow", "BadFloor"):
            self.assertEqual(getattr(errors, name).__name__, name)

    def test_they_can_be_raised_and_taken(self):
        for refusal in (errors.BadNet, errors.BadFlow, errors.BadFloor):
            with self.assertRaises(errors.WareError):
                raise refusal("words")


class Package(unittest.TestCase):
    def test_init_binds_nothing(self):
        # Python itself binds the files of the package that are imported somewhere.
        for name, value in vars(sharedways).items():
            self.assertTrue(name.startswith("__") or sys.modules.get(f"sharedways.{name}") is value, name)


if __name__ == "__main__":
    unittest.main()
