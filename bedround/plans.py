"""Plans: whether one may be, the first one of so many years, and whether there is always a longer one."""

from bedround.webs import Web


class Trail:
    # A way from the beginning that takes plantings in order and turns back where it can't go on.
    # For each state that it turned back from, ends has the greatest number of years from there.
    def __init__(self, garden):
        self.web = Web(garden)
        self.ends = {}
        self.begin()

    def begin(self):
        self.passed = [0]
        self.years = []

    def last(self):
        return self.passed[-1]

    def go_on(self, many):
        # Many is the number of years wanted in all, or None for years without end.
        while self.passed:
            if self.step(many):
                return True
            self.turn_back()
        return False

    def step(self, many):
        for planting, later in self.web.moves_of(self.last()):
            if self.is_worth_trying(later, many):
                self.years.append(planting)
                self.passed.append(later)
                return True
        return False

    def is_worth_trying(self, number, many):
        if number not in self.ends:
            return True
        return many is not None and len(self.years) + 1 + self.ends[number] >= many

    def turn_back(self):
        # No state behind this one was worth trying, so the ends of all of them are known.
        number = self.passed.pop()
        moves = self.web.moves_of(number)
        self.ends[number] = max([self.ends[later] + 1 for planting, later in moves], default=0)
        # The beginning has no year that leads to it.
        if self.years:
            self.years.pop()


def first_plan(trail, many):
    trail.begin()
    while len(trail.years) < many:
        if not trail.go_on(many):
            return None
    return trail.years


def round_place(trail):
    # States that were turned back from are not entered again, so one that comes twice closes a round.
    places = {}
    while trail.last() not in places:
        places[trail.last()] = len(trail.years)
        if not trail.go_on(None):
            return None
    return places[trail.last()]


def good(garden, plan):
    state = garden.start()
    for planting in plan:
        if not garden.fits(state, planting):
            return False
        state = garden.beds_behind(state, planting)
    return True


def plan_for(garden, many):
    # No plan has fewer years than none.
    if many < 0:
        return None
    return first_plan(Trail(garden), many)


def longest(garden):
    trail = Trail(garden)
    if round_place(trail) is not None:
        return None
    most = trail.ends[0]
    return (most, first_plan(trail, most))


def endless(garden):
    trail = Trail(garden)
    place = round_place(trail)
    if place is None:
        return None
    return (trail.years[:place], trail.years[place:])
