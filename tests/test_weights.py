"""Point 3.1, what a weight is, and what points 3.1 and 3.2 do with weights; point 0.3 for the answers."""

import unittest
from fractions import Fraction
from itertools import permutations

from quiethall.weights import NOTHING, WHOLE, half_of, sum_of

# All weights of at most 1 with powers up to 5, and some of great powers.
SMALL = [(0, 0), (1, 0)] + [(upper, power) for power in range(1, 6) for upper in range(1, 2 ** power, 2)]
GREAT = [(1, 100), (3, 100), (2 ** 100 - 1, 100), (1, 3000), (2 ** 2999 + 1, 3000)]


def value_of(weight):
    return Fraction(weight[0], 2 ** weight[1])


def halved(weight, times):
    for _ in range(times):
        weight = half_of(weight)
    return weight


def sum_of_all(weights):
    total = NOTHING
    for weight in weights:
        total = sum_of(total, weight)
    return total


class WeightsTest(unittest.TestCase):
    def check(self, told, asked):
        """Told is what is asked, and a weight in its one form."""
        self.assertEqual(told, asked)
        self.check_form(told)

    def check_form(self, told):
        self.assertIs(type(told), tuple)
        self.assertEqual([type(part) for part in told], [int, int])
        upper, power = told
        self.assertTrue(told == (0, 0) or (upper % 2 == 1 and power >= 0), told)


class NamedTest(WeightsTest):
    def test_the_whole(self):
        self.check(WHOLE, (1, 0))

    def test_nothing(self):
        self.check(NOTHING, (0, 0))


class HalfTest(WeightsTest):
    def test_of_the_whole(self):
        self.check(half_of((1, 0)), (1, 1))

    def test_of_a_part(self):
        self.check(half_of((3, 2)), (3, 3))

    def test_of_more_than_one(self):
        self.check(half_of((3, 0)), (3, 1))

    def test_of_one_halved_a_hundred_times(self):
        self.check(halved((1, 0), 100), (1, 100))
        self.check(half_of(halved((1, 0), 100)), (1, 101))
        self.check(half_of(halved((3, 2), 100)), (3, 103))

    def test_of_nothing(self):
        self.check(half_of((0, 0)), (0, 0))
        self.check(halved((0, 0), 100), (0, 0))

    def test_is_half_the_value(self):
        for weight in SMALL + GREAT:
            with self.subTest(weight=weight):
                told = half_of(weight)
                self.check_form(told)
                self.assertEqual(value_of(told) * 2, value_of(weight))

    def test_asked_again_the_same_is_told(self):
        for weight in SMALL + GREAT:
            self.assertEqual(half_of(weight), half_of(weight))


class SumTest(WeightsTest):
    def test_of_two_like_ones(self):
        self.check(sum_of((1, 1), (1, 1)), (1, 0))
        self.check(sum_of((1, 4), (1, 4)), (1, 3))

    def test_of_unlike_powers_in_either_order(self):
        self.check(sum_of((1, 1), (1, 3)), (5, 3))
        self.check(sum_of((1, 3), (1, 1)), (5, 3))

    def test_that_comes_down_by_several_powers(self):
        self.check(sum_of((3, 3), (5, 3)), (1, 0))
        self.check(sum_of((5, 4), (7, 4)), (3, 2))
        self.check(sum_of((1, 100), (2 ** 100 - 1, 100)), (1, 0))

    def test_comes_down_no_further_than_power_0(self):
        self.check(sum_of((3, 1), (3, 1)), (3, 0))
        self.check(sum_of((1, 1), (5, 1)), (3, 0))

    def test_that_is_no_weight_keeps_the_power_from_0_on(self):
        self.assertEqual(sum_of((1, 0), (1, 0)), (2, 0))
        self.assertEqual(sum_of((3, 1), (5, 1)), (4, 0))

    def test_with_nothing_on_either_side(self):
        for weight in SMALL + GREAT:
            with self.subTest(weight=weight):
                self.check(sum_of((0, 0), weight), weight)
                self.check(sum_of(weight, (0, 0)), weight)

    def test_of_nothing_and_nothing(self):
        self.check(sum_of((0, 0), (0, 0)), (0, 0))

    def test_of_a_great_power_with_power_0(self):
        self.check(sum_of((1, 100), (1, 0)), (2 ** 100 + 1, 100))
        self.check(sum_of((1, 0), (1, 100)), (2 ** 100 + 1, 100))
        self.check(sum_of((1, 3000), (3, 0)), (3 * 2 ** 3000 + 1, 3000))

    def test_has_the_value_of_both_in_either_order(self):
        for one in SMALL + GREAT:
            for other in SMALL + GREAT:
                if one == other == (1, 0):
                    continue  # their sum, 2, is no weight
                told = sum_of(one, other)
                self.check_form(told)
                self.assertEqual(value_of(told), value_of(one) + value_of(other), (one, other))
                self.assertEqual(told, sum_of(other, one), (one, other))

    def test_asked_again_the_same_is_told(self):
        for weight in SMALL + GREAT:
            self.assertEqual(sum_of(weight, (1, 7)), sum_of(weight, (1, 7)))


class HalvesAndSumsTest(WeightsTest):
    def test_half_and_half_are_what_was_halved(self):
        for weight in SMALL + GREAT:
            with self.subTest(weight=weight):
                self.check(sum_of(half_of(weight), half_of(weight)), weight)

    def test_the_order_of_adding_makes_no_difference(self):
        parts = ((1, 1), (1, 3), (3, 4), (0, 0), (1, 5), (1, 5))
        for order in permutations(parts):
            self.check(sum_of_all(order), (7, 3))

    def test_the_grouping_of_adding_makes_no_difference(self):
        left = sum_of(sum_of((1, 1), (1, 3)), (3, 3))
        right = sum_of((1, 1), sum_of((1, 3), (3, 3)))
        self.check(left, (1, 0))
        self.check(right, (1, 0))

    def test_all_that_was_halved_off_comes_home_as_the_whole(self):
        parts = [halved((1, 0), times) for times in range(1, 201)] + [halved((1, 0), 200)]
        mixed = parts[::2] + parts[1::2]
        for order in (parts, parts[::-1], mixed):
            self.check(sum_of_all(order), (1, 0))

    def test_the_whole_is_not_there_ahead_of_the_last_part(self):
        parts = [halved((1, 0), times) for times in range(1, 201)]
        self.check(sum_of_all(parts), (2 ** 200 - 1, 200))


if __name__ == "__main__":
    unittest.main()
