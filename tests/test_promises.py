"""Point 0.2 (a) to (e): what holds whatever is done, in whatever order.

Looked at over courses that are drawn with fixed seeds, in halls of each size from 2 to 6, and over all courses
of small halls up to some length.
"""

import copy
import random
import unittest
from itertools import permutations

from quiethall.errors import NotNow
from quiethall.halls import Hall
from tests.asking import acts_named, acts_now, all_asked, can_be_done, do, doer, pairs, questions, value_of

SIZES = range(2, 7)
SEEDS = range(40)
LENGTH = 240

# How readily each act is drawn; the mood of a course changes on its way.
MOODS = (
    {"send": 4, "take": 4, "rest": 2, "back": 2, "home": 2, "pass_on": 2},
    {"send": 1, "take": 1, "rest": 2, "back": 1, "home": 1, "pass_on": 9},
    {"send": 5, "take": 2, "rest": 2, "back": 0, "home": 0, "pass_on": 4},
    {"send": 1, "take": 6, "rest": 6, "back": 2, "home": 2, "pass_on": 4},
)
TO_THE_END = {"send": 0, "take": 4, "rest": 4, "back": 1, "home": 1, "pass_on": 2}


def would_end(hall, many, act):
    return act[0] == "rest" and len(hall.working()) == 1 and on_the_way(hall, many) == 0


def drawn_act(draw, hall, many, mood, may_end):
    """An act that can be done now, or None where the mood allows none."""
    acts = [act for act in acts_now(hall, many) if mood[act[0]] > 0]
    if not may_end:
        acts = [act for act in acts if not would_end(hall, many, act)]
    names = sorted({act[0] for act in acts})
    if not names:
        return None
    name = draw.choices(names, [mood[each] for each in names])[0]
    return draw.choice([act for act in acts if act[0] == name])


def course(many, seed):
    """A hall, as it is at first and behind each act: a long course that does not end early, then one to its end."""
    draw = random.Random(f"{many} {seed}")
    hall = Hall(many)
    yield hall
    for turn in range(LENGTH):
        if turn % 20 == 0:
            mood = draw.choice(MOODS)
        act = drawn_act(draw, hall, many, mood, False)
        if act is not None:
            do(hall, act)
            yield hall
    for _ in range(20 * LENGTH):
        if is_quiet(hall, many):
            return
        do(hall, drawn_act(draw, hall, many, TO_THE_END, True))
        yield hall
    raise AssertionError("no work is sent any more, but all does not come to be quiet")


def all_states(many, depth):
    """Each state that so many acts lead to, at the most, once."""
    kept = {}
    newest = [(Hall(many), False)]
    for step in range(depth + 1):
        older, newest = newest, []
        for hall, handed_on in older:
            # Whether the token was handed on before can be seen only later.
            key = (tuple(all_asked(hall, many).values()), handed_on)
            if key not in kept:
                kept[key] = hall
                if step < depth:
                    newest += [behind(hall, act, handed_on) for act in acts_now(hall, many)]
    return list(kept.values())


def behind(hall, act, handed_on):
    return behind_copy(hall, [act]), handed_on or act[0] == "pass_on"


def behind_copy(hall, acts):
    fresh = copy.deepcopy(hall)
    for act in acts:
        do(fresh, act)
    return fresh


def on_the_way(hall, many):
    return sum(hall.works(*road) for road in pairs(many))


def receipts_on_the_way(hall, many):
    return sum(hall.receipts(*road) for road in pairs(many))


def is_quiet(hall, many):
    return hall.working() == () and on_the_way(hall, many) == 0


def way_up(hall, many, hand):
    """The hands from this one up the tree; no more of them than there are, should they go round."""
    way = [hand]
    while hall.above(way[-1]) is not None and len(way) <= many:
        way.append(hall.above(way[-1]))
    return way


class Always(unittest.TestCase):
    """(a) to (d): what is looked at in each state, by all that begins with check."""

    def check_all(self, hall, many):
        for name in CHECKS:
            getattr(self, name)(hall, many)

    def test_in_drawn_courses_of_each_size(self):
        for many in SIZES:
            for seed in SEEDS:
                with self.subTest(many=many, seed=seed):
                    for hall in course(many, seed):
                        self.check_all(hall, many)

    def test_in_all_short_courses_of_small_halls(self):
        for many, depth in ((2, 11), (3, 7)):
            for hall in all_states(many, depth):
                self.check_all(hall, many)

    def check_is_quiet(self, hall, many):
        self.assertIs(hall.is_quiet(), is_quiet(hall, many))

    def check_no_watch_tells_ahead_of_time(self, hall, many):
        if not is_quiet(hall, many):
            self.assertEqual(hall.told(), (False, False, False))

    def check_the_tree_tells_as_all_receipts_have_come(self, hall, many):
        due = is_quiet(hall, many) and receipts_on_the_way(hall, many) == 0
        self.assertIs(hall.told()[0], due)

    def check_the_weights_tell_as_all_have_come_home(self, hall, many):
        due = is_quiet(hall, many) and all(hall.weights_home(hand) == () for hand in range(many))
        self.assertIs(hall.told()[1], due)

    def check_the_ring_tells_in_time(self, hall, many):
        if is_quiet(hall, many):
            self.assertTrue(behind_copy(hall, [("pass_on",)] * (3 * many)).told()[2])

    def check_what_the_ring_told_stays_told(self, hall, many):
        if hall.told()[2]:
            for act in acts_now(hall, many):
                self.assertTrue(behind_copy(hall, [act]).told()[2], act)

    def check_what_is_open_is_on_the_way_or_owed(self, hall, many):
        for one in range(many):
            sent = [hall.works(one, other) + hall.receipts(one, other) for other in range(many) if other != one]
            owed = [hand for hand in range(1, many) if hall.above(hand) == one]
            self.assertEqual(hall.open_of(one), sum(sent) + len(owed))

    def check_the_way_up_leads_to_hand_0(self, hall, many):
        for hand in range(many):
            if hand in hall.working() or hall.open_of(hand) > 0 or hall.above(hand) is not None:
                self.assertEqual(way_up(hall, many, hand)[-1], 0)

    def check_just_hands_that_work_or_wait_are_in_the_tree(self, hall, many):
        self.assertIsNone(hall.above(0))
        for hand in range(1, many):
            stays = hand in hall.working() or hall.open_of(hand) > 0
            self.assertIs(hall.above(hand) is not None, stays)

    def check_all_weights_together_are_1(self, hall, many):
        weights = [hall.weight_of(hand) for hand in range(many)]
        for hand in range(many):
            weights += hall.weights_home(hand)
        for road in pairs(many):
            weights += hall.weights_on(*road)
        self.assertEqual(sum(value_of(weight) for weight in weights), 1)

    def check_just_works_and_hands_that_work_have_weights(self, hall, many):
        for road in pairs(many):
            self.assertEqual(len(hall.weights_on(*road)), hall.works(*road))
            self.assertNotIn((0, 0), hall.weights_on(*road))
        for hand in range(1, many):
            self.assertIs(hall.weight_of(hand) != (0, 0), hand in hall.working())
            self.assertNotIn((0, 0), hall.weights_home(hand))

    def check_all_counts_together_are_the_works_on_the_way(self, hall, many):
        self.assertEqual(sum(hall.count_of(hand) for hand in range(many)), on_the_way(hall, many))


CHECKS = [name for name in dir(Always) if name.startswith("check_") and name != "check_all"]


class InTheEnd(unittest.TestCase):
    """(b), with the letters in whatever order."""

    def test_all_tell(self):
        for many in SIZES:
            for seed in SEEDS:
                *_, hall = course(many, seed)
                self.check_all_tell(random.Random(seed), hall, many)

    def check_all_tell(self, draw, hall, many):
        # Each open work needs one receipt, be it on the way yet or not.
        letters = sum(hall.open_of(hand) + len(hall.weights_home(hand)) for hand in range(many))
        acts_left = {"pass_on": 3 * many, "back": letters, "home": letters}
        for _ in range(letters + 3 * many):
            act = draw.choice([act for act in acts_now(hall, many) if acts_left[act[0]] > 0])
            acts_left[act[0]] -= 1
            do(hall, act)
        self.assertEqual(hall.told(), (True, True, True))
        self.assertEqual(acts_now(hall, many), [("pass_on",)])


class TheCourses(unittest.TestCase):
    """The drawn courses come to what the promises are hard to keep in; else they would show little."""

    def test_come_to_deep_trees_full_roads_and_black_tokens(self):
        for many in SIZES:
            states = [hall_seen(hall, many) for seed in SEEDS for hall in course(many, seed)]
            self.assertEqual(max(deep for deep, full, colour in states), many - 1)
            self.assertGreaterEqual(max(full for deep, full, colour in states), 3)
            self.assertEqual({colour for deep, full, colour in states}, {"white", "black"})


def hall_seen(hall, many):
    deep = max(len(way_up(hall, many, hand)) - 1 for hand in range(many))
    return deep, max(hall.works(*road) for road in pairs(many)), hall.token()[2]


class Orders(unittest.TestCase):
    """(e)."""

    def check_either_order(self, hall, many, acts):
        for one in acts:
            for other in acts:
                if one < other and doer(hall, one) != doer(hall, other):
                    there = all_asked(behind_copy(hall, [one, other]), many)
                    back = all_asked(behind_copy(hall, [other, one]), many)
                    self.assertEqual(there, back, (one, other))

    def test_what_unlike_hands_do_in_all_small_halls(self):
        for many, depth in ((2, 7), (3, 4)):
            for hall in all_states(many, depth):
                self.check_either_order(hall, many, acts_now(hall, many))

    def test_what_unlike_hands_do_in_long_courses(self):
        for many in SIZES:
            for seed in range(4):
                draw = random.Random(seed)
                for turn, hall in enumerate(course(many, seed)):
                    if turn % 12 == 0:
                        acts = acts_now(hall, many)
                        self.check_either_order(hall, many, draw.sample(acts, min(6, len(acts))))

    def test_tree_and_weights_do_not_hang_on_the_numbers_of_hands(self):
        for many in range(3, 7):
            names = list(permutations(range(1, many)))
            for seed in range(12):
                draw = random.Random(seed)
                self.check_renamed(draw, many, (0,) + draw.choice(names[1:]))

    def check_renamed(self, draw, many, names):
        hall, renamed = Hall(many), Hall(many)
        for _ in range(80):
            act = drawn_act(draw, hall, many, {**MOODS[0], "pass_on": 0}, False)
            if act is not None:
                do(hall, act)
                do(renamed, (act[0], *[names[hand] for hand in act[1:]]))
                self.check_same_but_for_names(hall, renamed, many, names)

    def check_same_but_for_names(self, hall, renamed, many, names):
        self.assertEqual(tuple(sorted(names[hand] for hand in hall.working())), renamed.working())
        self.assertEqual(hall.told()[:2], renamed.told()[:2])
        for name, hands in questions(many).values():
            if name in ("open_of", "weight_of", "weights_home", "works", "receipts", "weights_on"):
                others = [names[hand] for hand in hands]
                self.assertEqual(getattr(hall, name)(*hands), getattr(renamed, name)(*others))
            if name == "above" and hall.above(*hands) is not None:
                self.assertEqual(names[hall.above(*hands)], renamed.above(names[hands[0]]))


class Refused(unittest.TestCase):
    def test_not_now_just_where_it_cannot_be_done(self):
        for many, depth in ((2, 8), (3, 5)):
            for hall in all_states(many, depth):
                ahead = all_asked(hall, many)
                for act in acts_named(many):
                    if can_be_done(hall, act):
                        self.assertIsNone(do(copy.deepcopy(hall), act))
                    else:
                        with self.assertRaises(NotNow):
                            do(hall, act)
                self.assertEqual(all_asked(hall, many), ahead)


if __name__ == "__main__":
    unittest.main()
