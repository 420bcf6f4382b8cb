"""The error classes of the interface."""

import unittest

from fewforests import errors

NAMES = ["NoWeb", "OnePoint", "TooGreat", "TooFull", "TooMany", "NoTie", "NoStep", "NoText"]


class Errors(unittest.TestCase):

    def test_the_whole_is_made_from_value_error(self):
        self.assertEqual(errors.WebsError.__bases__, (ValueError,))

    def test_each_is_made_from_the_whole_and_none_from_another(self):
        for name in NAMES:
            self.assertEqual(getattr(errors, name).__bases__, (errors.WebsError,))

    def test_each_can_be_raised_and_caught_as_what_it_is_made_from(self):
        for name in NAMES:
            with self.assertRaises(ValueError):
                raise getattr(errors, name)("why")


if __name__ == "__main__":
    unittest.main()
