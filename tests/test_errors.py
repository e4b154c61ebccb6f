"""The refusals of slicewise.errors."""

import unittest

from slicewise import errors

PLAIN = ["TooGreat", "NoPlace", "Unlike", "NoFault", "Done"]
PLACED = ["NoRow", "NoBlock", "NoCall", "NoText"]


def named(word):
    return getattr(errors, word)


class Refusals(unittest.TestCase):
    def test_any_refusal_is_a_value_error(self):
        self.assertEqual(errors.SliceError.__bases__, (ValueError,))

    def test_each_stands_right_under_slice_error(self):
        for word in PLAIN + PLACED:
            self.assertEqual(named(word).__bases__, (errors.SliceError,), word)
            self.assertEqual(named(word).__name__, word)

    def test_none_stands_under_another_one(self):
        for word in PLAIN + PLACED:
            for other in PLAIN + PLACED:
                self.assertEqual(issubclass(named(word), named(other)), word == other, (word, other))

    def test_plain_ones_are_made_with_and_without_words(self):
        for word in PLAIN:
            for error in [named(word)(), named(word)("some words")]:
                self.assertIsInstance(error, errors.SliceError)
                self.assertIsInstance(error, ValueError)

    def test_placed_ones_have_their_place(self):
        for word in PLACED:
            for place in [0, 1, 59, 60, 1000]:
                error = named(word)(place)
                self.assertEqual(error.place, place, word)
                self.assertIs(type(error.place), int, word)
                self.assertIn(str(place), str(error))

    def test_places_are_each_error_s_own(self):
        for word in PLACED:
            one, other = named(word)(3), named(word)(8)
            self.assertEqual((one.place, other.place), (3, 8))

    def test_raised_and_taken(self):
        for word in PLACED:
            with self.assertRaises(errors.SliceError) as caught:
                raise named(word)(7)
            self.assertEqual(caught.exception.place, 7)


if __name__ == "__main__":
    unittest.main()
