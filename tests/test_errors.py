"""Point 3 and the interface's sashiko/errors.py."""

import unittest

from sashiko import errors
from samples import REFUSALS


class ErrorClasses(unittest.TestCase):
    def test_sew_error_is_straight_under_value_error(self):
        self.assertEqual(errors.SewError.__bases__, (ValueError,))

    def test_each_refusal_is_straight_under_sew_error(self):
        for name in REFUSALS:
            with self.subTest(name):
                self.assertEqual(getattr(errors, name).__bases__, (errors.SewError,))

    def test_the_refusals_are_all_there_and_unlike(self):
        self.assertEqual(len({getattr(errors, name) for name in REFUSALS}), 17)

    def test_a_refusal_may_be_made_with_words(self):
        for name in REFUSALS:
            if name not in ("Unfit", "Clash", "NoPicture"):
                with self.subTest(name):
                    self.assertEqual(str(getattr(errors, name)("some words")), "some words")


class ErrorFields(unittest.TestCase):
    def test_unfit_has_at(self):
        self.assertEqual(errors.Unfit(7).at, 7)
        self.assertEqual(errors.Unfit(0).at, 0)

    def test_clash_has_ring(self):
        self.assertEqual(errors.Clash([4, 1, 3]).ring, [4, 1, 3])
        self.assertEqual(errors.Clash([]).ring, [])

    def test_the_ring_is_a_list_of_its_own(self):
        numbers = [4, 1]
        error = errors.Clash(numbers)
        numbers.append(9)
        self.assertEqual(error.ring, [4, 1])
        error.ring.append(5)
        self.assertEqual(numbers, [4, 1, 9])

    def test_no_picture_has_x_and_y(self):
        error = errors.NoPicture(3, 0)
        self.assertEqual((error.x, error.y), (3, 0))

    def test_each_object_has_its_own_fields(self):
        one, other = errors.Unfit(1), errors.Unfit(2)
        self.assertEqual((one.at, other.at), (1, 2))

    def test_the_fields_stay_when_raised(self):
        with self.assertRaises(ValueError) as caught:
            raise errors.NoPicture(5, 6)
        self.assertEqual((caught.exception.x, caught.exception.y), (5, 6))


if __name__ == "__main__":
    unittest.main()
