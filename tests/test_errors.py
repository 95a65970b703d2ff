"""The interface, switchlamps/errors.py."""

import unittest

from switchlamps import errors


class ErrorClasses(unittest.TestCase):
    def test_lamp_error_is_a_value_error(self):
        self.assertEqual(errors.LampError.__bases__, (ValueError,))

    def test_five_stand_straight_under_it(self):
        for name in ("BadHouse", "BadLamps", "BadPress", "NoSwitch", "BadText"):
            with self.subTest(name=name):
                self.assertEqual(getattr(errors, name).__bases__, (errors.LampError,))

    def test_they_are_six_classes(self):
        names = ("LampError", "BadHouse", "BadLamps", "BadPress", "NoSwitch", "BadText")
        self.assertEqual(len({getattr(errors, name) for name in names}), 6)

    def test_each_bears_its_name(self):
        for name in ("LampError", "BadHouse", "BadLamps", "BadPress", "NoSwitch", "BadText"):
            self.assertEqual(getattr(errors, name).__name__, name)

    def test_they_can_be_raised_with_words(self):
        with self.assertRaises(errors.LampError):
            raise errors.NoSwitch("words")


if __name__ == "__main__":
    unittest.main()
