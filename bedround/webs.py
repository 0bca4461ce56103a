"""The states of a garden by numbers, each with its plantings, worked out as they are asked for."""


class Web:
    # A search comes to the same states again and again: each is worked out once, and its number
    # is quicker to look up than the state. The beginning has the number 0.
    def __init__(self, garden):
        self.garden = garden
        self.states = []
        self.numbers = {}
        self.came = []
        self.moves = {}
        self.number_of(garden.start(), None)

    def number_of(self, state, came):
        if state not in self.numbers:
            self.numbers[state] = len(self.states)
            self.states.append(state)
            self.came.append(came)
        return self.numbers[state]

    def moves_of(self, number):
        if number not in self.moves:
            self.moves[number] = self.worked_out(number)
        return self.moves[number]

    def worked_out(self, number):
        state = self.states[number]
        moves = []
        for planting in self.garden.may(state):
            later = self.garden.beds_behind(state, planting)
            moves.append((planting, self.number_of(later, (number, planting))))
        return moves

    def widen(self, first):
        # States that are new here have numbers beyond the count, so that each call goes on one year.
        count = len(self.states)
        for number in range(first, count):
            self.moves_of(number)
        return count

    def widen_fully(self):
        done = 0
        while done < len(self.states):
            done = self.widen(done)

    def way_to(self, number):
        years = []
        came = self.came[number]
        while came is not None:
            years.append(came[1])
            came = self.came[came[0]]
        return list(reversed(years))
