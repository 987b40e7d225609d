"""The refusals of the interface."""

import unittest

from signright import errors

NAMES = ["NoRoll", "NoHand", "NoGroup", "NoRule", "NoDay", "NoDeputy", "NoEntry", "Unruled"]


class Refusals(unittest.TestCase):
    def test_any_refusal_is_a_value_error(self):
        self.assertEqual(errors.SignError.__bases__, (ValueError,))

    def test_each_refusal_stands_straight_under_sign_error(self):
        for name in NAMES:
            with self.subTest(name=name):
                self.assertEqual(getattr(errors, name).__bases__, (errors.SignError,))

    def test_the_refusals_are_unlike_one_another(self):
        self.assertEqual(len({getattr(errors, name) for name in NAMES}), len(NAMES))

    def test_no_rule_has_the_field_at(self):
        for at in [0, 1, 600]:
            self.assertEqual(errors.NoRule(at).at, at)


if __name__ == "__main__":
    unittest.main()
