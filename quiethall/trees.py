"""The tree of receipts: each work that is sent is open until its receipt has come back."""


class Tree:
    def __init__(self):
        self.opens = {}
        self.parents = {}
        self.letters = {}

    def open_of(self, hand):
        return self.opens.get(hand, 0)

    def above(self, hand):
        return self.parents.get(hand)

    def receipts(self, one, other):
        return self.letters.get((one, other), 0)

    def send(self, one):
        self.opens[one] = self.open_of(one) + 1

    def take(self, one, other):
        if self.holds(other):
            self.send_receipt(one, other)
        else:
            self.parents[other] = one

    def back(self, one, other):
        self.letters[(one, other)] = self.receipts(one, other) - 1
        self.opens[one] = self.open_of(one) - 1

    # The tree does not see who works: the hall asks for this where the hand does not.
    def leave_if_done(self, hand):
        if hand in self.parents and self.open_of(hand) == 0:
            self.send_receipt(self.parents.pop(hand), hand)

    # Hand 0 has none above it, and is in the tree all the same.
    def holds(self, hand):
        return hand == 0 or hand in self.parents

    # Receipts go against the work, and so are kept by its road: from other to one.
    def send_receipt(self, one, other):
        self.letters[(one, other)] = self.receipts(one, other) + 1
