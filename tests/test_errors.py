"""The refusals, as the interface lists them."""

import unittest

from fewties import errors

NAMES = ["NoPlace", "NoJoin", "NoTie", "NoTree", "NoNumber", "NoText", "NoName", "NoRow"]


class TestErrors(unittest.TestCase):
    def test_all_stand_right_under_tie_error(self):
        self.assertEqual(errors.TieError.__bases__, (ValueError,))
        for name in NAMES:
            self.assertEqual(getattr(errors, name).__bases__, (errors.TieError,), name)

    def test_none_stands_under_another(self):
        for name in NAMES:
            for other in NAMES:
                under = issubclass(getattr(errors, name), getattr(errors, other))
                self.assertEqual(under, name == other, (name, other))

    def test_each_is_raised_and_caught_as_any_refusal(self):
        for name in NAMES:
            kind = getattr(errors, name)
            self.assertEqual(kind.__name__, name)
            with self.assertRaises(errors.TieError):
                raise kind("why")


if __name__ == "__main__":
    unittest.main()
