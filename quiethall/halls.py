"""The hall: hands that hand work on, and three watches, each by itself, that find out when all is quiet.

Every act refuses ahead of its first change, so that what is refused changes nothing.
"""

from quiethall.errors import NoHand, NotNow
from quiethall.rings import Ring
from quiethall.trees import Tree
from quiethall.weights import WHOLE, Weights


class Hall:
    def __init__(self, many):
        self.many = many
        self.busy = {0: True}
        self.on_way = {}
        self.tree = Tree()
        self.weights = Weights()
        self.ring = Ring(many - 1)

    def send(self, one, other):
        self.need_two(one, other)
        self.need_working(one)
        self.on_way[(one, other)] = self.works(one, other) + 1
        self.tree.send(one)
        self.weights.send(one, other)
        self.ring.send(one)

    def take(self, one, other):
        self.need_two(one, other)
        if self.works(one, other) == 0:
            raise NotNow("no work is on the way between these hands")
        self.on_way[(one, other)] = self.works(one, other) - 1
        self.busy[other] = True
        self.tree.take(one, other)
        self.weights.take(one, other)
        self.ring.take(other)

    def rest(self, hand):
        self.need_hand(hand)
        self.need_working(hand)
        self.busy.pop(hand)
        self.tree.leave_if_done(hand)
        self.weights.rest(hand)

    def back(self, one, other):
        self.need_two(one, other)
        if self.tree.receipts(one, other) == 0:
            raise NotNow("no receipt is on the way between these hands")
        self.tree.back(one, other)
        if one not in self.busy:
            self.tree.leave_if_done(one)

    def home(self, hand):
        self.need_hand(hand)
        if hand == 0:
            raise NoHand("hand 0 sends no weight home")
        if len(self.weights.weights_home(hand)) == 0:
            raise NotNow("no weight is on the way home from this hand")
        self.weights.home(hand)

    def pass_on(self):
        if self.ring.place in self.busy:
            raise NotNow("the hand that has the token works")
        self.ring.pass_on()

    def working(self):
        return tuple(sorted(self.busy))

    def works(self, one, other):
        self.need_two(one, other)
        return self.on_way.get((one, other), 0)

    def is_quiet(self):
        return len(self.busy) == 0 and sum(self.on_way.values()) == 0

    def open_of(self, hand):
        self.need_hand(hand)
        return self.tree.open_of(hand)

    def above(self, hand):
        self.need_hand(hand)
        return self.tree.above(hand)

    def receipts(self, one, other):
        self.need_two(one, other)
        return self.tree.receipts(one, other)

    def weight_of(self, hand):
        self.need_hand(hand)
        return self.weights.weight_of(hand)

    def weights_on(self, one, other):
        self.need_two(one, other)
        return self.weights.weights_on(one, other)

    def weights_home(self, hand):
        self.need_hand(hand)
        return self.weights.weights_home(hand)

    def token(self):
        return self.ring.token()

    def count_of(self, hand):
        self.need_hand(hand)
        return self.ring.count_of(hand)

    def colour_of(self, hand):
        self.need_hand(hand)
        return self.ring.colour_of(hand)

    def told(self):
        resting = 0 not in self.busy
        by_tree = resting and self.tree.open_of(0) == 0
        by_weights = resting and self.weights.weight_of(0) == WHOLE
        return (by_tree, by_weights, self.ring.telling)

    # The words leave the number out: Python writes no whole number of very many digits.
    def need_hand(self, hand):
        if hand < 0 or hand >= self.many:
            raise NoHand("this hand is not in the hall")

    def need_two(self, one, other):
        self.need_hand(one)
        self.need_hand(other)
        if one == other:
            raise NoHand("the same hand stands on both sides")

    def need_working(self, hand):
        if hand not in self.busy:
            raise NotNow("this hand does not work")
