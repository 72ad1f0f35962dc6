"""What the tests of the hall share: all that can be asked of one, and all that can be done there."""

import unittest
from fractions import Fraction

from quiethall.halls import Hall

OF_NONE = ("working", "is_quiet", "token", "told")
OF_ONE = ("open_of", "above", "weight_of", "weights_home", "count_of", "colour_of")
OF_TWO = ("works", "receipts", "weights_on")

ACTS_OF_ONE = ("rest", "home")
ACTS_OF_TWO = ("send", "take", "back")


def pairs(many):
    return [(one, other) for one in range(many) for other in range(many) if one != other]


def questions(many):
    """Each question that can be asked, by a name such as works_0_1: its method and its hands."""
    found = {name: (name, ()) for name in OF_NONE}
    for name in OF_ONE:
        found.update({f"{name}_{hand}": (name, (hand,)) for hand in range(many)})
    for name in OF_TWO:
        found.update({f"{name}_{one}_{other}": (name, (one, other)) for one, other in pairs(many)})
    return found


def all_asked(hall, many):
    return {key: getattr(hall, name)(*hands) for key, (name, hands) in questions(many).items()}


def at_first(many):
    """All that can be asked of a hall in which nothing has been done, by points 0.4, 2.1, 3.1 and 4.1."""
    usual = {
        "working": (0,), "is_quiet": False, "token": (0, 0, "white"), "told": (False, False, False),
        "open_of": 0, "above": None, "weight_of": (0, 0), "weights_home": (), "count_of": 0, "colour_of": "white",
        "works": 0, "receipts": 0, "weights_on": (),
    }
    asked = {key: usual[name] for key, (name, hands) in questions(many).items()}
    asked["weight_of_0"] = (1, 0)
    return asked


def do(hall, act):
    return getattr(hall, act[0])(*act[1:])


def acts_written(text):
    """The acts of a text such as "send 0 1, rest 0"."""
    rows = [row.split() for row in text.split(",") if row.strip()]
    return [(row[0], *[int(hand) for hand in row[1:]]) for row in rows]


def hall_behind(many, text):
    hall = Hall(many)
    for act in acts_written(text):
        do(hall, act)
    return hall


def acts_named(many):
    """Each act that names hands that are there, whether it can be done or not."""
    named = [(name, one, other) for name in ACTS_OF_TWO for one, other in pairs(many)]
    named += [("rest", hand) for hand in range(many)] + [("home", hand) for hand in range(1, many)]
    return named + [("pass_on",)]


def can_be_done(hall, act):
    """Whether an act can be done, by what points 1.1, 2.2, 3.2 and 4.2 say of NotNow."""
    name, hands = act[0], act[1:]
    if name == "take":
        return hall.works(*hands) > 0
    if name == "back":
        return hall.receipts(*hands) > 0
    if name == "home":
        return len(hall.weights_home(*hands)) > 0
    if name == "pass_on":
        return hall.token()[0] not in hall.working()
    return hands[0] in hall.working()


def acts_now(hall, many):
    return [act for act in acts_named(many) if can_be_done(hall, act)]


def doer(hall, act):
    """The hand that does an act, as things stand."""
    if act[0] == "take":
        return act[2]
    if act[0] == "home":
        return 0
    if act[0] == "pass_on":
        return hall.token()[0]
    return act[1]


def value_of(weight):
    return Fraction(weight[0], 1 << weight[1])


class Course(unittest.TestCase):
    """A course of acts in one hall, with all that is to be told of it behind each."""

    maxDiff = None

    def begin(self, many):
        self.many = many
        self.hall = Hall(many)
        self.asked = at_first(many)
        self.assertEqual(all_asked(self.hall, many), self.asked)

    def step(self, *act, **changed):
        for key, answer in changed.items():
            self.assertNotEqual(self.asked[key], answer, f"{key} is told as changed behind {act}, but is as it was")
        self.asked.update(changed)
        self.assertIsNone(do(self.hall, act), act)
        told = all_asked(self.hall, self.many)
        unlike = {key: (told[key], self.asked[key]) for key in told if told[key] != self.asked[key]}
        self.assertEqual(unlike, {}, f"behind {act}: what is told, and what is asked for")

    def begin_behind(self, many, text):
        """Behind acts that only lead to what a test looks at; what they change is looked at elsewhere."""
        self.many = many
        self.hall = hall_behind(many, text)
        self.asked = all_asked(self.hall, many)
