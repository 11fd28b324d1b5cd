import unittest

from dustwalk import errors

NAMES = ("BadFloor", "TooMany", "Clash", "NoDock", "NoText", "NoRow")


class TestErrors(unittest.TestCase):
    def test_dust_error_stands_straight_under_value_error(self):
        self.assertEqual(errors.DustError.__bases__, (ValueError,))

    def test_each_stands_straight_under_dust_error_and_under_no_other(self):
        for name in NAMES:
            self.assertEqual(getattr(errors, name).__bases__, (errors.DustError,), name)

    def test_each_is_a_class_of_its_own(self):
        self.assertEqual(len({getattr(errors, name) for name in NAMES}), len(NAMES))

    def test_each_is_taken_as_dust_error(self):
        for name in NAMES:
            with self.assertRaises(errors.DustError):
                raise getattr(errors, name)((0, 0))

    def test_a_clash_bears_its_cell(self):
        self.assertEqual(errors.Clash((-3, 7)).cell, (-3, 7))


if __name__ == "__main__":
    unittest.main()
