"""What several tests need: gardens in short words, and what the document says, told plainly."""

from itertools import product

from bedround.gardens import Garden


def crop(name, change=0, harvest=0, gap=0, bars=()):
    return (name, change, harvest, gap, list(bars))


def garden_of(crops, soils=(0,), top=5, wants=None):
    return Garden(list(soils), top, list(crops), dict(wants or {}))


def state_behind(garden, years, state=None):
    state = garden.start() if state is None else state
    for planting in years:
        state = garden.behind(state, planting)
    return state


class Told:
    """A garden by the words of points 3 to 5, over all the years so far instead of a cut state."""

    def __init__(self, crops, soils, top, wants):
        self.crops = crops
        self.soils = soils
        self.top = top
        self.wants = wants

    def soil(self, bed, years):
        soil = self.soils[bed]
        for planting in years:
            soil = min(self.top, soil + self.crops[planting[bed]][1])
        return soil

    def lets(self, bed, years, number):
        name, change, harvest, gap, bars = self.crops[number]
        stood = [planting[bed] for planting in years]
        if self.soil(bed, years) + change < 0:
            return False
        for back in range(1, gap + 1):
            if back <= len(stood) and stood[-back] == number:
                return False
        return not stood or self.crops[stood[-1]][0] not in bars

    def may(self, years):
        plantings = []
        for planting in product(range(len(self.crops)), repeat=len(self.soils)):
            names = [self.crops[number][0] for number in planting]
            if not all(self.lets(bed, years, number) for bed, number in enumerate(planting)):
                continue
            if all(least <= names.count(name) <= most for name, (least, most) in self.wants.items()):
                plantings.append(planting)
        return plantings

    def state(self, years):
        depth = max([1] + [one[3] for one in self.crops])
        beds = []
        for bed in range(len(self.soils)):
            stood = [planting[bed] for planting in reversed(years)]
            beds.append((self.soil(bed, years), tuple(stood[:depth])))
        return tuple(beds)

    def states(self):
        """Each state that the beginning leads to, with its plantings and the states behind them."""
        found = {}
        waiting = [[]]
        while waiting:
            years = waiting.pop()
            if self.state(years) not in found:
                longer = [years + [planting] for planting in self.may(years)]
                found[self.state(years)] = [(row[-1], self.state(row)) for row in longer]
                waiting.extend(longer)
        return found

    def plans(self, many):
        """All plans of so many years."""
        plans = [[]]
        for year in range(many):
            plans = [plan + [planting] for plan in plans for planting in self.may(plan)]
        return plans

    def harvest(self, plan):
        return sum(self.crops[number][2] for planting in plan for number in planting)


class Draw:
    """Numbers that look drawn by chance and are the same at each run."""

    def __init__(self, seed):
        self.seed = seed

    def below(self, bound):
        self.seed = (self.seed * 1103515245 + 12345) % 2 ** 31
        return self.seed // 65536 % bound

    def parts(self, beds):
        names = "abcd"[:2 + self.below(4 - beds)]
        top = 1 + self.below(3)
        crops = []
        for name in names:
            bars = [other for other in names if self.below(8) == 0]
            crops.append(crop(name, self.below(4) - 1 - self.below(2), self.below(10), self.below(3), bars))
        wants = {}
        for name in names:
            if self.below(5) == 0:
                most = 1 + self.below(3)
                wants[name] = (self.below(2), most)
        return crops, [self.below(top + 1) for bed in range(beds)], top, wants


# (crops, soils, top, wants) of gardens chosen for what their names tell.
PARTS = {
    "nothing may be planted": ([crop("a", -1, 5)], [0], 1, {}),
    "nothing may be wanted": ([crop("a", 0, 5)], [0, 0], 1, {"a": (3, 3)}),
    "one crop for ever": ([crop("a", 0, 5)], [2], 3, {}),
    "the soil rises to the top": ([crop("a", 1, 5)], [0, 2, 1], 4, {}),
    "the soil runs out": ([crop("a", -2, 5), crop("b", -1, 2)], [5], 5, {}),
    "a gap ends it": ([crop("a", 0, 5, 1)], [0, 0], 1, {}),
    "gaps make a round of four": ([crop(name, 0, place, 3) for place, name in enumerate("abcd")], [0], 1, {}),
    "the first crop is a dead end": ([crop("a", 0, 9, 0, "a"), crop("b", 0, 1, 0, "a")], [0], 1, {}),
    "every way ends late": ([crop("a", 1, 1, 3, "b"), crop("b", -1, 3, 1), crop("c", -1, 2, 2, "ca")], [1, 2], 2, {}),
    "no harvest": ([crop("a", 1), crop("b", -1, 0, 1)], [0, 1], 2, {}),
    "a round of soil": ([crop("give", 1, 0), crop("take", -2, 7)], [0], 5, {}),
    "two beds take turns": ([crop("a", -1, 8, 1), crop("b", 1, 3)], [1, 1], 2, {"a": (1, 1)}),
    "three beds with wants": (
        [crop("a", -1, 9, 1), crop("b", 1, 1, 0, "c"), crop("c", 0, 4, 2, "ab")],
        [0, 1, 2], 2, {"a": (0, 1), "b": (1, 2)},
    ),
    "three beds without wants": ([crop("a", -1, 6, 2), crop("b", 2, 1, 0, "b"), crop("c", -2, 7)], [1, 0, 2], 2, {}),
    "five crops": (
        [crop("a", -3, 30, 3), crop("b", 2, 1, 1, "a"), crop("c", -1, 9, 2, "bd"), crop("d", 1, 0, 0, "d"),
         crop("e", 0, 4, 2)],
        [1], 3, {"d": (0, 1), "a": (0, 1)},
    ),
}


def tried():
    """Gardens of one, two and three beds, each with its name and what the document says of it."""
    draw = Draw(11)
    parts = dict(PARTS)
    for beds in (1, 2, 3):
        for place in range(40):
            parts[f"{beds} beds, drawn garden {place}"] = draw.parts(beds)
    return [(name, garden_of(*some), Told(*some)) for name, some in parts.items()]
