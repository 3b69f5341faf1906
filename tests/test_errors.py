"""[5] The errors."""

import unittest

import gapswaps.errors as errors

WITH_VALUE = (
    "InvalidNumber InvalidOrder InvalidRow InvalidLets InvalidList InvalidPlace InvalidPairs InvalidRule InvalidTree "
    "InvalidLines InvalidDeed InvalidFlag InvalidHall Unlike TooMany"
).split()
WITHOUT_VALUE = ["NothingToUndo", "NothingToRedo"]


class ErrorsTest(unittest.TestCase):
    def test_gap_error_is_a_value_error_of_its_own(self):
        self.assertEqual(errors.GapError.__bases__, (ValueError,))
        self.assertIsInstance(errors.GapError(), ValueError)

    def test_all_others_stand_directly_under_it(self):
        for name in WITH_VALUE + WITHOUT_VALUE:
            self.assertEqual(getattr(errors, name).__bases__, (errors.GapError,), name)
            self.assertEqual(getattr(errors, name).__name__, name)

    def test_the_field_holds_the_very_argument(self):
        thing = [1, [2]]
        for name in WITH_VALUE:
            made = getattr(errors, name)
            self.assertIs(made(thing).value, thing)
            self.assertIs(made(value=thing).value, thing)
            self.assertIsNone(made().value)
            self.assertIs(made(False).value, False)
            self.assertRaises(TypeError, made, 1, 2)
            with self.assertRaises(errors.GapError) as caught:
                raise made(thing)
            self.assertIs(caught.exception.value, thing)

    def test_two_errors_have_no_field(self):
        for name in WITHOUT_VALUE:
            self.assertFalse(hasattr(getattr(errors, name)(), "value"), name)
        self.assertFalse(hasattr(errors.GapError(), "value"))


if __name__ == "__main__":
    unittest.main()
