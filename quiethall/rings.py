"""The ring: a token that goes round and counts, from hand 0 to the last hand and down again."""

WHITE = "white"
BLACK = "black"


class Ring:
    def __init__(self, last):
        self.last = last
        self.counts = {}
        self.colours = {}
        self.place = 0
        self.gathered = 0
        self.shade = WHITE
        self.has_gone = False
        self.telling = False

    def token(self):
        return (self.place, self.gathered, self.shade)

    def count_of(self, hand):
        return self.counts.get(hand, 0)

    def colour_of(self, hand):
        return self.colours.get(hand, WHITE)

    def send(self, one):
        self.counts[one] = self.count_of(one) + 1

    def take(self, other):
        self.counts[other] = self.count_of(other) - 1
        self.colours[other] = BLACK

    def pass_on(self):
        if self.place == 0:
            self.end_round()
            self.begin_round()
        else:
            self.step_down()

    def end_round(self):
        clean = self.shade == WHITE and self.colour_of(0) == WHITE
        # A token that has not been round yet has asked no other hand.
        if self.has_gone and clean and self.gathered + self.count_of(0) == 0:
            self.telling = True

    def begin_round(self):
        self.colours[0] = WHITE
        self.shade = WHITE
        self.gathered = 0
        self.place = self.last
        self.has_gone = True

    def step_down(self):
        self.gathered = self.gathered + self.count_of(self.place)
        if self.colour_of(self.place) == BLACK:
            self.shade = BLACK
        self.colours[self.place] = WHITE
        self.place = self.place - 1
