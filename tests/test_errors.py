"""The interface, errors.py."""

import unittest

from quiethall.errors import HallError, NoHand, NotNow


def raise_one(error):
    raise error("refused")


class ErrorsTest(unittest.TestCase):
    def test_any_refusal_is_a_value_error(self):
        self.assertTrue(issubclass(HallError, ValueError))

    def test_hall_error_stands_straight_below_value_error(self):
        self.assertEqual(HallError.__bases__, (ValueError,))

    def test_except_hall_error_takes_both(self):
        for error in (NoHand, NotNow):
            with self.subTest(error=error):
                try:
                    raise_one(error)
                except HallError as taken:
                    self.assertIs(type(taken), error)

    def test_except_value_error_takes_all(self):
        for error in (HallError, NoHand, NotNow):
            with self.subTest(error=error):
                try:
                    raise_one(error)
                except ValueError as taken:
                    self.assertIs(type(taken), error)

    def test_except_no_hand_leaves_not_now(self):
        with self.assertRaises(NotNow):
            try:
                raise_one(NotNow)
            except NoHand:
                pass

    def test_except_not_now_leaves_no_hand(self):
        with self.assertRaises(NoHand):
            try:
                raise_one(NoHand)
            except NotNow:
                pass

    def test_a_bare_hall_error_is_neither(self):
        self.assertNotIsInstance(HallError("refused"), NoHand)
        self.assertNotIsInstance(HallError("refused"), NotNow)

    def test_other_value_errors_are_no_refusals(self):
        self.assertNotIsInstance(ValueError("refused"), HallError)


if __name__ == "__main__":
    unittest.main()
