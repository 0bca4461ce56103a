"""Heights for a harvest a year (top, under), one for each state, or a round that has a greater one.

A state's height is to be no less than what each of its plantings comes to: under times the planting's
harvest, less top, and the height of the state behind it. A row has a pair for each planting of a state,
in order: the harvest, and the number of the state behind.
"""


class Climb:
    # All heights begin at nought, and rise alone. The pick of a state is the place in its row
    # of the planting that raised it last.
    def __init__(self, rows, rate):
        self.rows = rows
        self.top = rate[0]
        self.under = rate[1]
        self.heights = [0] * len(rows)
        self.picks = [None] * len(rows)

    def better_round(self):
        # Where there is none, the heights come to rest and are as they are to be.
        while self.sweep():
            ring = self.round_of_picks()
            if ring is not None:
                return ring
        return None

    def sweep(self):
        # Heights hang on those of the states behind, which mostly have greater numbers.
        risen = False
        for number in reversed(range(len(self.rows))):
            if self.lift(number):
                risen = True
        return risen

    def lift(self, number):
        height = self.heights[number]
        for place, move in enumerate(self.rows[number]):
            reached = self.under * move[0] - self.top + self.heights[move[1]]
            if reached > height:
                height = reached
                self.picks[number] = place
        risen = height > self.heights[number]
        self.heights[number] = height
        return risen

    def round_of_picks(self):
        # Such a round is a better one: each height in it is at most what its pick comes to by now,
        # and the one that closed the round was less, so the heights cancel and a gain is left.
        marks = [None] * len(self.rows)
        for first in range(len(self.rows)):
            number = first
            while marks[number] is None and self.picks[number] is not None:
                marks[number] = first
                number = self.picked_behind(number)
            if marks[number] == first:
                return self.round_from(number)
        return None

    def picked_behind(self, number):
        return self.rows[number][self.picks[number]][1]

    def round_from(self, first):
        ring = [(first, self.picks[first])]
        number = self.picked_behind(first)
        while number != first:
            ring.append((number, self.picks[number]))
            number = self.picked_behind(number)
        return ring
