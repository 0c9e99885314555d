"""The refusals (0.4)."""

import unittest

from brineways import errors

OF_TEXT = (
    "NoFraction", "NoBrine", "NoStrength", "NoWater", "NoMoment", "NoYear", "NoPan", "NoRoom",
    "Weaker", "NoDeed", "NoGate", "NoLot", "NoPlan", "NoLine",
)
OF_NUMBER = {"NoLater": "number", "NoText": "at"}


class Family(unittest.TestCase):
    def test_brine_error_stands_under_value_error(self):
        self.assertEqual(errors.BrineError.__bases__, (ValueError,))

    def test_each_refusal_stands_straight_under_brine_error(self):
        for name in OF_TEXT + tuple(OF_NUMBER):
            self.assertEqual(getattr(errors, name).__bases__, (errors.BrineError,), name)

    def test_none_is_another_ones_name(self):
        names = OF_TEXT + tuple(OF_NUMBER)
        self.assertEqual(len({getattr(errors, name) for name in names}), len(names))

    def test_each_is_defined_in_the_file(self):
        for name in OF_TEXT + tuple(OF_NUMBER) + ("BrineError",):
            self.assertEqual(getattr(errors, name).__module__, "brineways.errors")

    def test_none_is_caught_by_another_ones_name(self):
        with self.assertRaises(errors.NoWater):
            try:
                raise errors.NoWater("dry")
            except (errors.NoBrine, errors.NoRoom, errors.NoLater):
                self.fail("caught by another name")


class Made(unittest.TestCase):
    def test_of_a_text(self):
        for name in OF_TEXT + ("BrineError",):
            error = getattr(errors, name)("why it was refused")
            self.assertIsInstance(error, errors.BrineError)
            self.assertIsInstance(error, ValueError)
            self.assertEqual(str(error), "why it was refused", name)

    def test_of_any_whole_number(self):
        for name, borne in OF_NUMBER.items():
            for number in (0, 1, 7, -1, -10 ** 30, 10 ** 12, 10 ** 6000, -10 ** 6000):
                error = getattr(errors, name)(number)
                self.assertIs(type(getattr(error, borne)), int)
                self.assertTrue(getattr(error, borne) == number)
                self.assertIs(type(str(error)), str)

    def test_raised_and_caught(self):
        for name, borne in OF_NUMBER.items():
            with self.assertRaises(ValueError) as caught:
                raise getattr(errors, name)(41)
            self.assertEqual(getattr(caught.exception, borne), 41)


if __name__ == "__main__":
    unittest.main()
