"""The refusals, as the interface lists them."""

import unittest

from surecrowd import errors

REFUSALS = ("BadPlaces", "BadTies", "BadMany")


class TestErrors(unittest.TestCase):
    def test_crowd_error_is_straight_under_value_error(self):
        self.assertEqual(errors.CrowdError.__bases__, (ValueError,))

    def test_each_refusal_is_straight_under_crowd_error(self):
        for name in REFUSALS:
            with self.subTest(name):
                self.assertEqual(getattr(errors, name).__bases__, (errors.CrowdError,))

    def test_each_class_is_defined_in_its_file(self):
        for name in REFUSALS + ("CrowdError",):
            with self.subTest(name):
                self.assertEqual(getattr(errors, name).__module__, "surecrowd.errors")
                self.assertEqual(getattr(errors, name).__name__, name)

    def test_each_refusal_is_caught_by_its_own_name_and_the_common_ones(self):
        for name in REFUSALS:
            for caught in (getattr(errors, name), errors.CrowdError, ValueError):
                with self.subTest(name, caught=caught):
                    with self.assertRaises(caught) as held:
                        raise getattr(errors, name)("why")
                    self.assertEqual(str(held.exception), "why")

    def test_no_refusal_is_caught_by_the_name_of_another(self):
        for name in REFUSALS:
            for other in REFUSALS:
                with self.subTest(name, other=other):
                    one, two = getattr(errors, name), getattr(errors, other)
                    self.assertEqual(issubclass(one, two), name == other)


if __name__ == "__main__":
    unittest.main()
