"""Weights: pairs (upper, power), upper divided by 2 so often as power.

Each weight has one form alone, so that equal weights are equal pairs:
upper is odd and power is from 0 on, or both are 0.
"""

WHOLE = (1, 0)
NOTHING = (0, 0)


def half_of(weight):
    return in_one_form(weight[0], weight[1] + 1)


def sum_of(one, other):
    power = max(one[1], other[1])
    return in_one_form(upper_at(one, power) + upper_at(other, power), power)


def upper_at(weight, power):
    return weight[0] << (power - weight[1])


def in_one_form(upper, power):
    if upper == 0:
        return NOTHING
    # A power below 0 is no weight's, so no more twos are taken out than the power has.
    spare = min(twos_in(upper), power)
    return (upper >> spare, power - spare)


def twos_in(upper):
    # All bits below the lowest one that is set are 0: upper divides by 2 just so often as there are such bits.
    return (upper & -upper).bit_length() - 1


# Where the weights of a hall are: with the hands, on the works, on the way home.
class Weights:
    def __init__(self):
        self.kept = {0: WHOLE}
        self.on_works = {}
        self.on_way_home = {}

    def weight_of(self, hand):
        return self.kept.get(hand, NOTHING)

    def weights_on(self, one, other):
        return tuple(self.on_works.get((one, other), ()))

    def weights_home(self, hand):
        return tuple(self.on_way_home.get(hand, ()))

    def send(self, one, other):
        half = half_of(self.weight_of(one))
        self.kept[one] = half
        self.on_works.setdefault((one, other), []).append(half)

    def take(self, one, other):
        self.add_to(other, self.on_works[(one, other)].pop(0))

    # Hand 0 is at home, so it keeps its weight.
    def rest(self, hand):
        if hand != 0:
            self.on_way_home.setdefault(hand, []).append(self.weight_of(hand))
            self.kept[hand] = NOTHING

    def home(self, hand):
        self.add_to(0, self.on_way_home[hand].pop(0))

    def add_to(self, hand, weight):
        self.kept[hand] = sum_of(self.weight_of(hand), weight)
