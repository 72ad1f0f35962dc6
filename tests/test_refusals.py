"""What each method refuses, with which error, and that what is refused changes nothing.

The interface, and points 1.1, 1.2, 2.2, 3.2 and 4.2.
"""

import unittest

from quiethall.errors import HallError, NoHand, NotNow
from tests.asking import (
    ACTS_OF_ONE, ACTS_OF_TWO, OF_ONE, OF_TWO, acts_named, all_asked, can_be_done, do, hall_behind, pairs,
)

SIZES = (2, 3, 6)

# States that are unlike in what can be done in them.
STATES = {
    "as it is at first": "",
    "hand 0 works": "send 0 1, take 0 1, rest 1, home 1, back 0 1",
    "works on the way": "send 0 1, send 0 1, take 0 1, send 1 0, send 1 0",
    "receipts on the way": "send 0 1, send 0 1, take 0 1, take 0 1, send 1 0, take 1 0, rest 0",
    "weights on the way home": "send 0 1, send 0 1, take 0 1, rest 1, take 0 1, rest 1",
    "the token with a hand that works": "send 0 1, take 0 1, rest 0, pass_on",
    "all is quiet": "rest 0, pass_on, pass_on",
    "all is quiet with letters on the way": "send 0 1, take 0 1, rest 0, rest 1, pass_on",
}


def not_there(many):
    near = [-1, -2, many, many + 1]
    # Python counts a list's places from its end by numbers below 0.
    wrapped = [-many, -many - 1, 2 * many]
    far = [-1000, 1000, 10 ** 20, -10 ** 20, 10 ** 5000, -10 ** 5000]
    return near + wrapped + far


def told_short(hands):
    return [hand if abs(hand) < 10 ** 30 else "very far" for hand in hands]


class Refusals(unittest.TestCase):
    def in_each_state(self):
        for many in SIZES:
            for name, text in STATES.items():
                yield many, name, hall_behind(many, text)

    def check_refused(self, hall, many, error, name, hands):
        ahead = all_asked(hall, many)
        with self.subTest(many=many, name=name, hands=told_short(hands)):
            with self.assertRaises(HallError) as taken:
                do(hall, (name, *hands))
            self.assertIs(type(taken.exception), error)
            self.assertEqual(all_asked(hall, many), ahead)


class NoHandTest(Refusals):
    def test_of_one_hand_that_is_not_there(self):
        for many, state, hall in self.in_each_state():
            for name in OF_ONE + ACTS_OF_ONE:
                for hand in not_there(many):
                    self.check_refused(hall, many, NoHand, name, (hand,))

    def test_of_two_the_first_is_not_there(self):
        for many, state, hall in self.in_each_state():
            for name in OF_TWO + ACTS_OF_TWO:
                for hand in not_there(many):
                    self.check_refused(hall, many, NoHand, name, (hand, 0))
                    self.check_refused(hall, many, NoHand, name, (hand, 1))

    def test_of_two_the_other_is_not_there(self):
        for many, state, hall in self.in_each_state():
            for name in OF_TWO + ACTS_OF_TWO:
                for hand in not_there(many):
                    self.check_refused(hall, many, NoHand, name, (0, hand))
                    self.check_refused(hall, many, NoHand, name, (1, hand))

    def test_of_two_neither_is_there(self):
        for many, state, hall in self.in_each_state():
            for name in OF_TWO + ACTS_OF_TWO:
                self.check_refused(hall, many, NoHand, name, (-1, many))
                self.check_refused(hall, many, NoHand, name, (many, many))

    def test_of_two_the_same_one_twice(self):
        for many, state, hall in self.in_each_state():
            for name in OF_TWO + ACTS_OF_TWO:
                for hand in range(many):
                    self.check_refused(hall, many, NoHand, name, (hand, hand))

    def test_hand_0_where_home_is_asked(self):
        for many, state, hall in self.in_each_state():
            self.check_refused(hall, many, NoHand, "home", (0,))

    def test_a_hand_that_is_only_in_a_larger_hall(self):
        for name in OF_ONE + ACTS_OF_ONE:
            self.check_refused(hall_behind(2, "send 0 1"), 2, NoHand, name, (2,))
            self.check_refused(hall_behind(5, "send 0 1"), 5, NoHand, name, (5,))

    def test_one_hand_alone_is_in_a_hall_of_1(self):
        hall = hall_behind(1, "rest 0")
        for name in OF_TWO + ACTS_OF_TWO:
            self.check_refused(hall, 1, NoHand, name, (0, 1))
            self.check_refused(hall, 1, NoHand, name, (0, 0))


class NotNowTest(Refusals):
    def test_just_where_it_cannot_be_done(self):
        for many in SIZES:
            for name, text in STATES.items():
                for act in acts_named(many):
                    hall = hall_behind(many, text)
                    if can_be_done(hall, act):
                        self.assertIsNone(do(hall, act), (name, act))
                    else:
                        self.check_refused(hall, many, NotNow, act[0], act[1:])

    def test_what_can_be_asked_is_never_refused_of_hands_that_are_there(self):
        for many, state, hall in self.in_each_state():
            all_asked(hall, many)
            self.assertEqual(hall.weights_home(0), ())

    def test_send_by_a_hand_that_does_not_work(self):
        for many in SIZES:
            hall = hall_behind(many, "send 0 1")
            for one, other in pairs(many):
                if one != 0:
                    self.check_refused(hall, many, NotNow, "send", (one, other))
            hall = hall_behind(many, "rest 0")
            self.check_refused(hall, many, NotNow, "send", (0, 1))

    def test_send_by_a_hand_in_the_tree_that_rests(self):
        hall = hall_behind(3, "send 0 1, take 0 1, send 1 2, rest 1")
        self.assertEqual(hall.above(1), 0)
        self.check_refused(hall, 3, NotNow, "send", (1, 2))

    def test_take_where_work_is_on_other_roads_alone(self):
        hall = hall_behind(3, "send 0 1, send 0 1, take 0 1, send 1 2")
        for road in ((1, 0), (0, 2), (2, 0), (2, 1)):
            self.check_refused(hall, 3, NotNow, "take", road)
        hall.take(0, 1)
        self.check_refused(hall, 3, NotNow, "take", (0, 1))

    def test_rest_by_a_hand_that_rests(self):
        hall = hall_behind(3, "send 0 1, take 0 1, rest 1, rest 0")
        for hand in range(3):
            self.check_refused(hall, 3, NotNow, "rest", (hand,))

    def test_rest_by_a_hand_to_which_work_is_on_the_way(self):
        self.check_refused(hall_behind(2, "send 0 1"), 2, NotNow, "rest", (1,))

    def test_back_where_a_receipt_is_on_other_roads_alone(self):
        hall = hall_behind(3, "send 0 1, take 0 1, rest 1")
        for road in ((1, 0), (0, 2), (2, 0), (1, 2), (2, 1)):
            self.check_refused(hall, 3, NotNow, "back", road)
        hall.back(0, 1)
        self.check_refused(hall, 3, NotNow, "back", (0, 1))

    def test_back_where_the_receipt_is_owed_but_not_sent(self):
        self.check_refused(hall_behind(2, "send 0 1"), 2, NotNow, "back", (0, 1))
        self.check_refused(hall_behind(2, "send 0 1, take 0 1"), 2, NotNow, "back", (0, 1))

    def test_home_where_no_weight_is_on_the_way(self):
        hall = hall_behind(3, "send 0 1, take 0 1")
        self.check_refused(hall, 3, NotNow, "home", (1,))
        hall.rest(1)
        self.check_refused(hall, 3, NotNow, "home", (2,))
        hall.home(1)
        self.check_refused(hall, 3, NotNow, "home", (1,))

    def test_pass_on_by_a_hand_that_works(self):
        self.check_refused(hall_behind(2, "send 0 1"), 2, NotNow, "pass_on", ())
        self.check_refused(hall_behind(3, "send 0 2, take 0 2, rest 0, pass_on"), 3, NotNow, "pass_on", ())
        self.check_refused(hall_behind(3, "send 0 1, take 0 1, rest 0, pass_on, pass_on"), 3, NotNow, "pass_on", ())


class BothTest(Refusals):
    """Where both would hold, NoHand stands ahead of NotNow: nothing can be done in this hall but pass_on."""

    def test_no_hand_stands_ahead(self):
        for many in SIZES:
            hall = hall_behind(many, "rest 0")
            for name in ACTS_OF_TWO:
                for hands in ((0, 0), (1, 1), (0, many), (many, 0), (1, -1), (-1, 1), (many, many)):
                    self.check_refused(hall, many, NoHand, name, hands)
            for name in ACTS_OF_ONE:
                for hand in (-1, many):
                    self.check_refused(hall, many, NoHand, name, (hand,))
            self.check_refused(hall, many, NoHand, "home", (0,))


if __name__ == "__main__":
    unittest.main()
