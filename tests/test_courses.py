"""Points 0.4 and 1.1 to 4.4: courses of acts, reckoned by hand, with all that can be asked behind each act.

Each step names what the act changes; all else that can be asked must stay as it was.
"""

import unittest

from quiethall.halls import Hall
from tests.asking import Course, all_asked, hall_behind


class AtFirst(Course):
    def test_of_every_size(self):
        for many in range(2, 7):
            with self.subTest(many=many):
                self.begin(many)

    def test_sizes_somewhat_beyond_are_not_refused(self):
        for many in (1, 7, 8, 9):
            with self.subTest(many=many):
                self.begin(many)
        Hall(0)

    def test_a_hall_of_7_goes_on_as_others_do(self):
        self.begin(7)
        self.step("send", 0, 6, works_0_6=1, open_of_0=1, weight_of_0=(1, 1), weights_on_0_6=((1, 1),), count_of_0=1)
        self.step("take", 0, 6, works_0_6=0, working=(0, 6), above_6=0, weight_of_6=(1, 1), weights_on_0_6=(),
                  count_of_6=-1, colour_of_6="black")

    def test_a_hall_of_1_hands_the_token_to_itself(self):
        self.begin(1)
        self.step("rest", 0, working=(), is_quiet=True, told=(True, True, False))
        self.step("pass_on")
        self.step("pass_on", told=(True, True, True))

    def test_two_halls_do_not_know_of_each_other(self):
        self.begin(2)
        other = hall_behind(2, "send 0 1, take 0 1, rest 0, rest 1, home 1, back 0 1")
        for _ in range(6):
            other.pass_on()
        self.assertEqual(other.told(), (True, True, True))
        self.assertEqual(all_asked(self.hall, 2), self.asked)


class TwoHands(Course):
    def test_quiet_from_the_start(self):
        self.begin(2)
        self.step("rest", 0, working=(), is_quiet=True, told=(True, True, False))
        self.step("pass_on", token=(1, 0, "white"))
        self.step("pass_on", token=(0, 0, "white"))
        self.step("pass_on", token=(1, 0, "white"), told=(True, True, True))
        self.step("pass_on", token=(0, 0, "white"))
        self.step("pass_on", token=(1, 0, "white"))

    def test_one_work_there(self):
        self.begin(2)
        self.step("send", 0, 1, works_0_1=1, open_of_0=1, weight_of_0=(1, 1), weights_on_0_1=((1, 1),), count_of_0=1)
        self.step("rest", 0, working=())
        self.step("pass_on", token=(1, 0, "white"))
        self.step("take", 0, 1, working=(1,), works_0_1=0, above_1=0, weight_of_1=(1, 1), weights_on_0_1=(),
                  count_of_1=-1, colour_of_1="black")
        self.step("rest", 1, working=(), is_quiet=True, above_1=None, receipts_0_1=1, weight_of_1=(0, 0),
                  weights_home_1=((1, 1),))
        self.step("pass_on", token=(0, -1, "black"), colour_of_1="white")
        self.step("back", 0, 1, open_of_0=0, receipts_0_1=0, told=(True, False, False))
        self.step("home", 1, weight_of_0=(1, 0), weights_home_1=(), told=(True, True, False))
        self.step("pass_on", token=(1, 0, "white"))
        self.step("pass_on", token=(0, -1, "white"))
        self.step("pass_on", token=(1, 0, "white"), told=(True, True, True))

    def test_there_and_back_again(self):
        self.begin(2)
        self.step("send", 0, 1, works_0_1=1, open_of_0=1, weight_of_0=(1, 1), weights_on_0_1=((1, 1),), count_of_0=1)
        self.step("take", 0, 1, working=(0, 1), works_0_1=0, above_1=0, weight_of_1=(1, 1), weights_on_0_1=(),
                  count_of_1=-1, colour_of_1="black")
        self.step("send", 1, 0, works_1_0=1, open_of_1=1, weight_of_1=(1, 2), weights_on_1_0=((1, 2),), count_of_1=0)
        self.step("rest", 0, working=(1,))
        self.step("rest", 1, working=(), weight_of_1=(0, 0), weights_home_1=((1, 2),))
        self.step("take", 1, 0, working=(0,), works_1_0=0, receipts_1_0=1, weight_of_0=(3, 2), weights_on_1_0=(),
                  count_of_0=0, colour_of_0="black")
        self.step("home", 1, weight_of_0=(1, 0), weights_home_1=())
        self.step("back", 1, 0, open_of_1=0, receipts_1_0=0, above_1=None, receipts_0_1=1)
        self.step("rest", 0, working=(), is_quiet=True, told=(False, True, False))
        self.step("pass_on", token=(1, 0, "white"), colour_of_0="white")
        self.step("pass_on", token=(0, 0, "black"), colour_of_1="white")
        self.step("pass_on", token=(1, 0, "white"))
        self.step("pass_on", token=(0, 0, "white"))
        self.step("back", 0, 1, open_of_0=0, receipts_0_1=0, told=(True, True, False))
        self.step("pass_on", token=(1, 0, "white"), told=(True, True, True))


class ThreeHands(Course):
    def test_a_work_is_handed_on_and_on(self):
        self.begin(3)
        self.step("send", 0, 2, works_0_2=1, open_of_0=1, weight_of_0=(1, 1), weights_on_0_2=((1, 1),), count_of_0=1)
        self.step("take", 0, 2, working=(0, 2), works_0_2=0, above_2=0, weight_of_2=(1, 1), weights_on_0_2=(),
                  count_of_2=-1, colour_of_2="black")
        self.step("rest", 0, working=(2,))
        self.step("send", 2, 1, works_2_1=1, open_of_2=1, weight_of_2=(1, 2), weights_on_2_1=((1, 2),), count_of_2=0)
        self.step("take", 2, 1, working=(1, 2), works_2_1=0, above_1=2, weight_of_1=(1, 2), weights_on_2_1=(),
                  count_of_1=-1, colour_of_1="black")
        self.step("rest", 2, working=(1,), weight_of_2=(0, 0), weights_home_2=((1, 2),))
        self.step("pass_on", token=(2, 0, "white"))
        self.step("home", 2, weight_of_0=(3, 2), weights_home_2=())
        self.step("pass_on", token=(1, 0, "black"), colour_of_2="white")
        self.step("rest", 1, working=(), is_quiet=True, above_1=None, receipts_2_1=1, weight_of_1=(0, 0),
                  weights_home_1=((1, 2),))
        self.step("home", 1, weight_of_0=(1, 0), weights_home_1=(), told=(False, True, False))
        self.step("back", 2, 1, open_of_2=0, receipts_2_1=0, above_2=None, receipts_0_2=1)
        self.step("back", 0, 2, open_of_0=0, receipts_0_2=0, told=(True, True, False))
        self.step("pass_on", token=(0, -1, "black"), colour_of_1="white")
        self.step("pass_on", token=(2, 0, "white"))
        self.step("pass_on", token=(1, 0, "white"))
        self.step("pass_on", token=(0, -1, "white"))
        self.step("pass_on", token=(2, 0, "white"), told=(True, True, True))

    def test_a_hand_that_is_asked_from_two_sides(self):
        self.begin(3)
        self.step("send", 0, 1, works_0_1=1, open_of_0=1, weight_of_0=(1, 1), weights_on_0_1=((1, 1),), count_of_0=1)
        self.step("send", 0, 2, works_0_2=1, open_of_0=2, weight_of_0=(1, 2), weights_on_0_2=((1, 2),), count_of_0=2)
        self.step("take", 0, 1, working=(0, 1), works_0_1=0, above_1=0, weight_of_1=(1, 1), weights_on_0_1=(),
                  count_of_1=-1, colour_of_1="black")
        self.step("send", 1, 2, works_1_2=1, open_of_1=1, weight_of_1=(1, 2), weights_on_1_2=((1, 2),), count_of_1=0)
        self.step("take", 1, 2, working=(0, 1, 2), works_1_2=0, above_2=1, weight_of_2=(1, 2), weights_on_1_2=(),
                  count_of_2=-1, colour_of_2="black")
        self.step("take", 0, 2, works_0_2=0, receipts_0_2=1, weight_of_2=(1, 1), weights_on_0_2=(), count_of_2=-2)
        self.step("back", 0, 2, open_of_0=1, receipts_0_2=0)
        self.step("rest", 1, working=(0, 2), weight_of_1=(0, 0), weights_home_1=((1, 2),))
        self.step("rest", 0, working=(2,))
        self.step("rest", 2, working=(), is_quiet=True, above_2=None, receipts_1_2=1, weight_of_2=(0, 0),
                  weights_home_2=((1, 1),))
        self.step("home", 2, weight_of_0=(3, 2), weights_home_2=())
        self.step("back", 1, 2, open_of_1=0, receipts_1_2=0, above_1=None, receipts_0_1=1)
        self.step("back", 0, 1, open_of_0=0, receipts_0_1=0, told=(True, False, False))
        self.step("home", 1, weight_of_0=(1, 0), weights_home_1=(), told=(True, True, False))


class SixHands(Course):
    def test_a_tree_of_three_steps(self):
        self.begin(6)
        self.step("send", 0, 5, works_0_5=1, open_of_0=1, weight_of_0=(1, 1), weights_on_0_5=((1, 1),), count_of_0=1)
        self.step("send", 0, 3, works_0_3=1, open_of_0=2, weight_of_0=(1, 2), weights_on_0_3=((1, 2),), count_of_0=2)
        self.step("take", 0, 5, working=(0, 5), works_0_5=0, above_5=0, weight_of_5=(1, 1), weights_on_0_5=(),
                  count_of_5=-1, colour_of_5="black")
        self.step("send", 5, 2, works_5_2=1, open_of_5=1, weight_of_5=(1, 2), weights_on_5_2=((1, 2),), count_of_5=0)
        self.step("send", 5, 0, works_5_0=1, open_of_5=2, weight_of_5=(1, 3), weights_on_5_0=((1, 3),), count_of_5=1)
        self.step("take", 5, 2, working=(0, 2, 5), works_5_2=0, above_2=5, weight_of_2=(1, 2), weights_on_5_2=(),
                  count_of_2=-1, colour_of_2="black")
        self.step("take", 0, 3, working=(0, 2, 3, 5), works_0_3=0, above_3=0, weight_of_3=(1, 2), weights_on_0_3=(),
                  count_of_3=-1, colour_of_3="black")
        self.step("send", 2, 3, works_2_3=1, open_of_2=1, weight_of_2=(1, 3), weights_on_2_3=((1, 3),), count_of_2=0)
        self.step("send", 2, 4, works_2_4=1, open_of_2=2, weight_of_2=(1, 4), weights_on_2_4=((1, 4),), count_of_2=1)
        self.step("take", 2, 4, working=(0, 2, 3, 4, 5), works_2_4=0, above_4=2, weight_of_4=(1, 4),
                  weights_on_2_4=(), count_of_4=-1, colour_of_4="black")
        self.step("take", 2, 3, works_2_3=0, receipts_2_3=1, weight_of_3=(3, 3), weights_on_2_3=(), count_of_3=-2)
        self.step("rest", 5, working=(0, 2, 3, 4), weight_of_5=(0, 0), weights_home_5=((1, 3),))
        self.step("rest", 3, working=(0, 2, 4), above_3=None, receipts_0_3=1, weight_of_3=(0, 0),
                  weights_home_3=((3, 3),))
        self.step("take", 5, 0, works_5_0=0, receipts_5_0=1, weight_of_0=(3, 3), weights_on_5_0=(), count_of_0=1,
                  colour_of_0="black")
        self.step("rest", 0, working=(2, 4))
        self.step("pass_on", token=(5, 0, "white"), colour_of_0="white")
        self.step("pass_on", token=(4, 1, "black"), colour_of_5="white")
        self.step("back", 5, 0, open_of_5=1, receipts_5_0=0)
        self.step("rest", 2, working=(4,), weight_of_2=(0, 0), weights_home_2=((1, 4),))
        self.step("back", 2, 3, open_of_2=1, receipts_2_3=0)
        self.step("rest", 4, working=(), is_quiet=True, above_4=None, receipts_2_4=1, weight_of_4=(0, 0),
                  weights_home_4=((1, 4),))
        self.step("pass_on", token=(3, 0, "black"), colour_of_4="white")
        self.step("pass_on", token=(2, -2, "black"), colour_of_3="white")
        self.step("home", 3, weight_of_0=(3, 2), weights_home_3=())
        self.step("home", 4, weight_of_0=(13, 4), weights_home_4=())
        self.step("home", 5, weight_of_0=(15, 4), weights_home_5=())
        self.step("home", 2, weight_of_0=(1, 0), weights_home_2=(), told=(False, True, False))
        self.step("pass_on", token=(1, -1, "black"), colour_of_2="white")
        self.step("pass_on", token=(0, -1, "black"))
        self.step("back", 0, 3, open_of_0=1, receipts_0_3=0)
        self.step("back", 2, 4, open_of_2=0, receipts_2_4=0, above_2=None, receipts_5_2=1)
        self.step("back", 5, 2, open_of_5=0, receipts_5_2=0, above_5=None, receipts_0_5=1)
        self.step("back", 0, 5, open_of_0=0, receipts_0_5=0, told=(True, True, False))
        self.step("pass_on", token=(5, 0, "white"))
        self.step("pass_on", token=(4, 1, "white"))
        self.step("pass_on", token=(3, 0, "white"))
        self.step("pass_on", token=(2, -2, "white"))
        self.step("pass_on", token=(1, -1, "white"))
        self.step("pass_on", token=(0, -1, "white"))
        self.step("pass_on", token=(5, 0, "white"), told=(True, True, True))


if __name__ == "__main__":
    unittest.main()
