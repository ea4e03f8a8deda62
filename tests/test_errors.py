import unittest

from hourhaul import errors
from hourhaul.errors import HaulError

WITH_NUMBER = ("BadNet", "BadTable", "NoText")
WITH_TEXT = ("TooMany", "NoWay", "NoWalk", "TooMuch", "BadHour", "NoRow", "NoBack")


class Refusals(unittest.TestCase):
    def test_haul_error_stands_under_value_error(self):
        self.assertEqual(HaulError.__bases__, (ValueError,))

    def test_each_stands_straight_under_haul_error(self):
        for name in WITH_NUMBER + WITH_TEXT:
            with self.subTest(name):
                self.assertEqual(getattr(errors, name).__bases__, (HaulError,))

    def test_each_is_of_no_other_class(self):
        for name in WITH_NUMBER + WITH_TEXT:
            error = getattr(errors, name)(3 if name in WITH_NUMBER else "words")
            self.assertIsInstance(error, ValueError)
            for other in WITH_NUMBER + WITH_TEXT:
                with self.subTest(name, other=other):
                    self.assertEqual(isinstance(error, getattr(errors, other)), name == other)

    def test_at_is_borne(self):
        for name in WITH_NUMBER:
            for at in (-1, 0, 7, 10 ** 29):
                with self.subTest(name, at=at):
                    self.assertEqual(getattr(errors, name)(at).at, at)

    def test_made_of_a_text_and_raised(self):
        for name in WITH_TEXT:
            with self.subTest(name):
                with self.assertRaises(HaulError) as caught:
                    raise getattr(errors, name)("some words")
                self.assertIn("some words", str(caught.exception))

    def test_two_of_a_class_keep_their_own_at(self):
        one, other = errors.BadNet(1), errors.BadNet(2)
        self.assertEqual((one.at, other.at), (1, 2))


if __name__ == "__main__":
    unittest.main()
