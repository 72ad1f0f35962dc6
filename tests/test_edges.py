"""The edges of points 0.4 and 1.1 to 4.4, each with all that can be asked behind each act."""

import unittest

from quiethall.errors import NotNow
from quiethall.halls import Hall
from tests.asking import Course


class Roads(Course):
    """Point 0.4: of what is on the way, the first that was sent comes first."""

    def test_works_on_one_road_are_taken_in_their_order(self):
        self.begin(2)
        self.step("send", 0, 1, works_0_1=1, open_of_0=1, weight_of_0=(1, 1), weights_on_0_1=((1, 1),), count_of_0=1)
        self.step("send", 0, 1, works_0_1=2, open_of_0=2, weight_of_0=(1, 2), weights_on_0_1=((1, 1), (1, 2)),
                  count_of_0=2)
        self.step("send", 0, 1, works_0_1=3, open_of_0=3, weight_of_0=(1, 3),
                  weights_on_0_1=((1, 1), (1, 2), (1, 3)), count_of_0=3)
        self.step("take", 0, 1, working=(0, 1), works_0_1=2, above_1=0, weight_of_1=(1, 1),
                  weights_on_0_1=((1, 2), (1, 3)), count_of_1=-1, colour_of_1="black")
        self.step("take", 0, 1, works_0_1=1, receipts_0_1=1, weight_of_1=(3, 2), weights_on_0_1=((1, 3),),
                  count_of_1=-2)
        self.step("send", 0, 1, works_0_1=2, open_of_0=4, weight_of_0=(1, 4), weights_on_0_1=((1, 3), (1, 4)),
                  count_of_0=4)
        self.step("take", 0, 1, works_0_1=1, receipts_0_1=2, weight_of_1=(7, 3), weights_on_0_1=((1, 4),),
                  count_of_1=-3)
        self.step("take", 0, 1, works_0_1=0, receipts_0_1=3, weight_of_1=(15, 4), weights_on_0_1=(), count_of_1=-4)

    def test_receipts_on_one_road_come_one_by_one(self):
        self.begin_behind(2, "send 0 1, send 0 1, send 0 1, take 0 1, take 0 1, take 0 1, rest 0")
        self.step("back", 0, 1, open_of_0=2, receipts_0_1=1)
        self.step("rest", 1, working=(), is_quiet=True, above_1=None, receipts_0_1=2, weight_of_1=(0, 0),
                  weights_home_1=((7, 3),))
        self.step("back", 0, 1, open_of_0=1, receipts_0_1=1)
        self.step("back", 0, 1, open_of_0=0, receipts_0_1=0, told=(True, False, False))

    def test_weights_on_the_way_home_come_in_their_order(self):
        self.begin_behind(3, "send 0 1, send 0 1, send 0 1, take 0 1, rest 1")
        self.assertEqual(self.hall.weights_home(1), ((1, 1),))
        self.step("take", 0, 1, working=(0, 1), works_0_1=1, above_1=0, weight_of_1=(1, 2), weights_on_0_1=((1, 3),),
                  count_of_1=-2)
        self.step("rest", 1, working=(0,), above_1=None, receipts_0_1=2, weight_of_1=(0, 0),
                  weights_home_1=((1, 1), (1, 2)))
        self.step("home", 1, weight_of_0=(5, 3), weights_home_1=((1, 2),))
        self.step("take", 0, 1, working=(0, 1), works_0_1=0, above_1=0, weight_of_1=(1, 3), weights_on_0_1=(),
                  count_of_1=-3)
        self.step("rest", 1, working=(0,), above_1=None, receipts_0_1=3, weight_of_1=(0, 0),
                  weights_home_1=((1, 2), (1, 3)))
        self.step("home", 1, weight_of_0=(7, 3), weights_home_1=((1, 3),))
        self.step("home", 1, weight_of_0=(1, 0), weights_home_1=())

    def test_each_road_has_two_ways_of_its_own(self):
        self.begin_behind(3, "send 0 1, take 0 1, send 0 2, take 0 2")
        self.step("send", 1, 2, works_1_2=1, open_of_1=1, weight_of_1=(1, 2), weights_on_1_2=((1, 2),), count_of_1=0)
        self.step("send", 2, 1, works_2_1=1, open_of_2=1, weight_of_2=(1, 3), weights_on_2_1=((1, 3),), count_of_2=0)
        self.step("take", 1, 2, works_1_2=0, receipts_1_2=1, weight_of_2=(3, 3), weights_on_1_2=(), count_of_2=-1)
        self.step("take", 2, 1, works_2_1=0, receipts_2_1=1, weight_of_1=(3, 3), weights_on_2_1=(), count_of_1=-1)
        self.step("back", 2, 1, open_of_2=0, receipts_2_1=0)
        self.step("back", 1, 2, open_of_1=0, receipts_1_2=0)

    def test_a_receipt_does_not_wait_for_a_work_that_was_sent_ahead_of_it(self):
        self.begin_behind(2, "send 0 1, send 0 1, take 0 1, send 1 0, take 0 1")
        self.step("back", 0, 1, open_of_0=1, receipts_0_1=0)
        self.assertEqual(self.hall.works(1, 0), 1)

    def test_a_work_does_not_wait_for_a_receipt_that_was_sent_ahead_of_it(self):
        self.begin_behind(2, "send 0 1, send 0 1, take 0 1, take 0 1, send 1 0")
        self.step("take", 1, 0, works_1_0=0, receipts_1_0=1, weight_of_0=(5, 3), weights_on_1_0=(), count_of_0=1,
                  colour_of_0="black")
        self.assertEqual(self.hall.receipts(0, 1), 1)


class Taking(Course):
    def test_by_a_hand_that_works_already(self):
        self.begin_behind(3, "send 0 1, send 0 2, take 0 1, take 0 2, send 1 2")
        self.step("take", 1, 2, works_1_2=0, receipts_1_2=1, weight_of_2=(1, 1), weights_on_1_2=(), count_of_2=-2)

    def test_by_a_hand_in_the_tree_that_rests(self):
        self.begin_behind(3, "send 0 1, send 0 2, take 0 1, take 0 2, send 1 0, send 2 1, rest 1")
        self.step("take", 2, 1, working=(0, 1, 2), works_2_1=0, receipts_2_1=1, weight_of_1=(1, 3),
                  weights_on_2_1=(), count_of_1=-1)
        self.assertEqual(self.hall.above(1), 0)
        self.step("rest", 1, working=(0, 2), weight_of_1=(0, 0), weights_home_1=((1, 2), (1, 3)))

    def test_by_hand_0_that_works(self):
        self.begin_behind(2, "send 0 1, take 0 1, send 1 0")
        self.step("take", 1, 0, works_1_0=0, receipts_1_0=1, weight_of_0=(3, 2), weights_on_1_0=(), count_of_0=0,
                  colour_of_0="black")

    def test_by_hand_0_that_rests_and_then_sends_again(self):
        self.begin_behind(2, "send 0 1, take 0 1, send 1 0, rest 0")
        self.step("take", 1, 0, working=(0, 1), works_1_0=0, receipts_1_0=1, weight_of_0=(3, 2), weights_on_1_0=(),
                  count_of_0=0, colour_of_0="black")
        self.step("send", 0, 1, works_0_1=1, open_of_0=2, weight_of_0=(3, 3), weights_on_0_1=((3, 3),), count_of_0=1)

    def test_by_hand_0_puts_none_above_it(self):
        self.begin_behind(2, "send 0 1, send 0 1, take 0 1, send 1 0, rest 1, take 0 1, rest 1, rest 0")
        self.step("take", 1, 0, working=(0,), works_1_0=0, receipts_1_0=1, weight_of_0=(1, 1), weights_on_1_0=(),
                  count_of_0=1, colour_of_0="black")
        self.assertIsNone(self.hall.above(0))


class TheTree(Course):
    def test_left_by_rest(self):
        self.begin_behind(3, "send 0 2, take 0 2, send 2 1, take 2 1")
        self.step("rest", 1, working=(0, 2), above_1=None, receipts_2_1=1, weight_of_1=(0, 0),
                  weights_home_1=((1, 2),))

    def test_not_left_by_rest_while_a_work_is_on_the_way(self):
        self.begin_behind(3, "send 0 2, take 0 2, send 2 1")
        self.step("rest", 2, working=(0,), weight_of_2=(0, 0), weights_home_2=((1, 2),))

    def test_not_left_by_rest_while_a_receipt_is_on_the_way(self):
        self.begin_behind(3, "send 0 2, take 0 2, send 2 1, take 2 1, rest 1")
        self.step("rest", 2, working=(0,), weight_of_2=(0, 0), weights_home_2=((1, 2),))
        self.step("back", 2, 1, open_of_2=0, receipts_2_1=0, above_2=None, receipts_0_2=1)

    def test_left_by_the_last_back_alone(self):
        self.begin_behind(3, "send 0 2, take 0 2, send 2 1, send 2 1, take 2 1, take 2 1, rest 1, rest 2")
        self.step("back", 2, 1, open_of_2=1, receipts_2_1=1)
        self.step("back", 2, 1, open_of_2=0, receipts_2_1=0, above_2=None, receipts_0_2=1)

    def test_not_left_by_back_while_the_hand_works(self):
        self.begin_behind(3, "send 0 2, take 0 2, send 2 1, take 2 1, rest 1")
        self.step("back", 2, 1, open_of_2=0, receipts_2_1=0)
        self.step("rest", 2, working=(0,), above_2=None, receipts_0_2=1, weight_of_2=(0, 0),
                  weights_home_2=((1, 2),))

    def test_entered_again_below_another_hand(self):
        self.begin_behind(3, "send 0 1, take 0 1, send 0 2, take 0 2, rest 2, send 1 2")
        self.step("take", 1, 2, working=(0, 1, 2), works_1_2=0, above_2=1, weight_of_2=(1, 2), weights_on_1_2=(),
                  count_of_2=-2)
        self.step("rest", 2, working=(0, 1), above_2=None, receipts_1_2=1, weight_of_2=(0, 0),
                  weights_home_2=((1, 2), (1, 2)))

    def test_hand_0_sends_no_receipt_by_rest_or_back(self):
        self.begin_behind(2, "send 0 1, take 0 1, rest 1")
        self.step("back", 0, 1, open_of_0=0, receipts_0_1=0)
        self.step("rest", 0, working=(), is_quiet=True, told=(True, False, False))

    def test_does_not_tell_while_hand_0_works(self):
        self.begin_behind(2, "send 0 1, take 0 1, rest 1, back 0 1")
        self.assertEqual((self.hall.open_of(0), self.hall.told()), (0, (False, False, False)))


class TheWeights(Course):
    def test_do_not_tell_while_hand_0_works(self):
        self.begin_behind(2, "send 0 1, take 0 1, rest 1, home 1")
        self.assertEqual((self.hall.weight_of(0), self.hall.told()), ((1, 0), (False, False, False)))

    def test_hand_0_keeps_its_own_by_rest(self):
        self.begin_behind(2, "send 0 1")
        self.step("rest", 0, working=())
        self.assertEqual(self.hall.weight_of(0), (1, 1))

    def test_come_home_while_hand_0_rests(self):
        self.begin_behind(2, "send 0 1, send 0 1, take 0 1, rest 1, rest 0")
        self.step("home", 1, weight_of_0=(3, 2), weights_home_1=())

    def test_halved_very_often_on_one_road(self):
        often = 3000
        hall = Hall(2)
        for _ in range(often):
            hall.send(0, 1)
        self.assertEqual(hall.works(0, 1), often)
        self.assertTrue(hall.weight_of(0) == (1, often))
        self.assertTrue(hall.weights_on(0, 1) == tuple((1, power) for power in range(1, often + 1)))
        for _ in range(often):
            hall.take(0, 1)
        self.assertTrue(hall.weight_of(1) == ((1 << often) - 1, often))
        hall.rest(1)
        self.assertTrue(hall.weights_home(1) == (((1 << often) - 1, often),))
        hall.rest(0)
        self.assertEqual(hall.told(), (False, False, False))
        hall.home(1)
        self.assertEqual(hall.weight_of(0), (1, 0))
        self.assertEqual(hall.told(), (False, True, False))

    def test_halved_very_often_to_and_fro(self):
        often = 500
        hall = Hall(3)
        for turn in range(often):
            one, other = (0, 1, 2)[turn % 3], (1, 2, 0)[turn % 3]
            hall.send(one, other)
            hall.take(one, other)
        total = sum(hall.weight_of(hand)[0] << (often - hall.weight_of(hand)[1]) for hand in range(3))
        self.assertTrue(total == 1 << often)
        self.assertGreater(hall.weight_of(0)[1], 100)
        for hand in range(3):
            hall.rest(hand)
        hall.home(2)
        self.assertFalse(hall.told()[1])
        hall.home(1)
        self.assertEqual((hall.weight_of(0), hall.told()[1]), ((1, 0), True))


class TheRing(Course):
    def test_does_not_tell_as_hand_0_hands_it_on_for_the_first_time(self):
        self.begin_behind(3, "rest 0")
        self.step("pass_on", token=(2, 0, "white"))

    def test_tells_only_as_hand_0_hands_it_on(self):
        self.begin_behind(3, "rest 0, pass_on")
        self.step("pass_on", token=(1, 0, "white"))
        self.step("pass_on", token=(0, 0, "white"))
        self.step("pass_on", token=(2, 0, "white"), told=(True, True, True))

    def test_what_it_told_stays_told(self):
        self.begin_behind(3, "send 0 1, take 0 1, rest 1, rest 0, pass_on, pass_on, pass_on, pass_on, pass_on, pass_on")
        self.step("pass_on", token=(2, 0, "white"), told=(False, False, True))
        for _ in range(4):
            self.step("pass_on", token=(1, 0, "white"))
            self.step("pass_on", token=(0, -1, "white"))
            self.step("pass_on", token=(2, 0, "white"))
        self.step("back", 0, 1, open_of_0=0, receipts_0_1=0, told=(True, False, True))
        self.step("home", 1, weight_of_0=(1, 0), weights_home_1=(), told=(True, True, True))

    def test_a_black_hand_blackens_the_token_and_is_white_then(self):
        self.begin_behind(4, "send 0 2, take 0 2, rest 2, rest 0, pass_on")
        self.step("pass_on", token=(2, 0, "white"))
        self.step("pass_on", token=(1, -1, "black"), colour_of_2="white")
        self.step("pass_on", token=(0, -1, "black"))
        self.step("pass_on", token=(3, 0, "white"))

    def test_a_black_hand_0_is_white_then_and_tells_nothing(self):
        self.begin_behind(2, "send 0 1, take 0 1, send 1 0, rest 1, rest 0, pass_on, pass_on, pass_on, take 1 0, "
                             "pass_on, rest 0")
        self.assertEqual((self.hall.token(), self.hall.count_of(0)), ((0, 0, "white"), 0))
        self.step("pass_on", token=(1, 0, "white"), colour_of_0="white")
        self.step("pass_on", token=(0, 0, "white"))
        self.step("pass_on", token=(1, 0, "white"), told=(False, False, True))

    def test_a_black_hand_0_is_white_as_it_hands_it_on_for_the_first_time(self):
        self.begin_behind(2, "send 0 1, take 0 1, send 1 0, take 1 0, rest 0")
        self.step("pass_on", token=(1, 0, "white"), colour_of_0="white")

    def test_a_black_token_tells_nothing(self):
        self.begin_behind(2, "send 0 1, take 0 1, rest 1, rest 0, pass_on, pass_on")
        self.assertEqual((self.hall.token(), self.hall.count_of(0)), ((0, -1, "black"), 1))
        self.assertEqual(self.hall.colour_of(0), "white")
        self.step("pass_on", token=(1, 0, "white"))

    def test_counts_that_are_not_0_together_tell_nothing(self):
        self.begin_behind(3, "send 0 1, rest 0, pass_on, pass_on, pass_on")
        self.assertEqual((self.hall.token(), self.hall.count_of(0)), ((0, 0, "white"), 1))
        self.step("pass_on", token=(2, 0, "white"))

    def test_a_count_of_the_token_that_is_not_0_by_itself_tells(self):
        self.begin_behind(2, "send 0 1, take 0 1, rest 1, rest 0, pass_on, pass_on, pass_on, pass_on")
        self.assertEqual((self.hall.token(), self.hall.count_of(0)), ((0, -1, "white"), 1))
        self.step("pass_on", token=(1, 0, "white"), told=(False, False, True))

    def test_stays_with_a_hand_that_works_until_it_rests(self):
        self.begin_behind(2, "send 0 1, rest 0, pass_on, take 0 1")
        with self.assertRaises(NotNow):
            self.hall.pass_on()
        self.step("rest", 1, working=(), is_quiet=True, above_1=None, receipts_0_1=1, weight_of_1=(0, 0),
                  weights_home_1=((1, 1),))
        self.step("pass_on", token=(0, -1, "black"), colour_of_1="white")

    def test_is_handed_on_while_other_hands_work(self):
        self.begin_behind(3, "send 0 1, take 0 1, rest 0")
        self.step("pass_on", token=(2, 0, "white"))
        self.step("pass_on", token=(1, 0, "white"))

    def test_a_send_leaves_the_colour_as_it_is(self):
        self.begin_behind(2, "send 0 1, take 0 1, rest 0, pass_on")
        self.step("send", 1, 0, works_1_0=1, open_of_1=1, weight_of_1=(1, 2), weights_on_1_0=((1, 2),), count_of_1=0)
        self.assertEqual((self.hall.colour_of(0), self.hall.colour_of(1)), ("white", "black"))


if __name__ == "__main__":
    unittest.main()
