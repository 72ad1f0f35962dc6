"""Point 0.3: the kinds of all that is told, and that the same is told again."""

import inspect
import unittest

from quiethall.halls import Hall
from tests.asking import acts_written, all_asked, do, hall_behind, questions

COURSE = (
    "send 0 1, send 0 1, send 0 2, take 0 1, take 0 1, send 1 2, take 1 2, take 0 2, send 2 0, rest 1, take 2 0, "
    "rest 2, rest 0, pass_on, home 1, back 0 1, back 0 2, home 2, pass_on, pass_on, pass_on, pass_on, pass_on, "
    "pass_on, back 2 0, back 1 2, back 0 1"
)


def is_whole(told):
    return type(told) is int


def is_truth(told):
    return told is True or told is False


def is_weight(told):
    if type(told) is not tuple or len(told) != 2 or not all(is_whole(part) for part in told):
        return False
    return told == (0, 0) or (told[0] % 2 == 1 and told[1] >= 0)


def is_row_of(kind):
    return lambda told: type(told) is tuple and all(kind(part) for part in told)


def is_colour(told):
    return type(told) is str and told in ("white", "black")


def is_token(told):
    return type(told) is tuple and len(told) == 3 and all(map(is_whole, told[:2])) and is_colour(told[2])


KINDS = {
    "working": is_row_of(is_whole),
    "works": is_whole,
    "is_quiet": is_truth,
    "open_of": is_whole,
    "above": lambda told: told is None or is_whole(told),
    "receipts": is_whole,
    "weight_of": is_weight,
    "weights_on": is_row_of(is_weight),
    "weights_home": is_row_of(is_weight),
    "token": is_token,
    "count_of": is_whole,
    "colour_of": is_colour,
    "told": lambda told: is_row_of(is_truth)(told) and len(told) == 3,
}

ARGUMENTS = {
    "send": ["one", "other"], "take": ["one", "other"], "rest": ["hand"], "back": ["one", "other"],
    "home": ["hand"], "pass_on": [], "working": [], "works": ["one", "other"], "is_quiet": [], "open_of": ["hand"],
    "above": ["hand"], "receipts": ["one", "other"], "weight_of": ["hand"], "weights_on": ["one", "other"],
    "weights_home": ["hand"], "token": [], "count_of": ["hand"], "colour_of": ["hand"], "told": [],
}


def behind_each_act(many, text):
    hall = Hall(many)
    yield hall
    for act in acts_written(text):
        do(hall, act)
        yield hall


class KindsTest(unittest.TestCase):
    def test_of_all_that_is_told(self):
        for many in (3, 6):
            for hall in behind_each_act(many, COURSE):
                asked = all_asked(hall, many)
                for key, (name, hands) in questions(many).items():
                    self.assertTrue(KINDS[name](asked[key]), (key, asked[key]))

    def test_the_course_shows_each_kind_of_answer(self):
        tokens, rows, told = set(), set(), set()
        for hall in behind_each_act(3, COURSE):
            tokens.add(hall.token()[2])
            rows.add(len(hall.weights_on(0, 1)))
            told.add(hall.told())
        self.assertEqual(tokens, {"white", "black"})
        self.assertEqual(rows, {0, 1, 2})
        self.assertEqual(told, {(False,) * 3, (False, True, False), (False, True, True), (True,) * 3})

    def test_each_act_tells_none(self):
        hall = Hall(3)
        for act in acts_written(COURSE):
            self.assertIsNone(do(hall, act), act)

    def test_asked_again_the_same_is_told(self):
        for hall in behind_each_act(3, COURSE):
            self.assertEqual(all_asked(hall, 3), all_asked(hall, 3))

    def test_what_was_told_does_not_change_with_the_hall(self):
        hall = hall_behind(2, "send 0 1, send 0 1, take 0 1, rest 1")
        told = (hall.working(), hall.weights_on(0, 1), hall.weights_home(1), hall.token(), hall.told())
        for act in acts_written("take 0 1, send 0 1, rest 1, home 1, rest 0, pass_on"):
            do(hall, act)
        self.assertEqual(told, ((0,), ((1, 2),), ((1, 1),), (0, 0, "white"), (False, False, False)))

    def test_the_same_acts_lead_to_the_same(self):
        self.assertEqual(all_asked(hall_behind(3, COURSE), 3), all_asked(hall_behind(3, COURSE), 3))

    def test_working_rises(self):
        hall = hall_behind(6, "send 0 5, send 0 2, send 0 4, take 0 5, take 0 2, take 0 4")
        self.assertEqual(hall.working(), (0, 2, 4, 5))
        for act in acts_written("send 2 0, rest 0, send 2 1, take 2 1, take 2 0, rest 4"):
            do(hall, act)
        self.assertEqual(hall.working(), (0, 1, 2, 5))


class InterfaceTest(unittest.TestCase):
    def test_names_and_arguments(self):
        self.assertEqual(list(inspect.signature(Hall).parameters), ["many"])
        for name, arguments in ARGUMENTS.items():
            told = list(inspect.signature(getattr(Hall, name)).parameters)
            self.assertEqual(told, ["self"] + arguments, name)

    def test_arguments_may_be_named(self):
        hall = Hall(many=2)
        hall.send(one=0, other=1)
        hall.take(one=0, other=1)
        hall.rest(hand=1)
        self.assertEqual((hall.receipts(one=0, other=1), hall.weights_home(hand=1)), (1, ((1, 1),)))


if __name__ == "__main__":
    unittest.main()
