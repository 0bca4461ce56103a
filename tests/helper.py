"""What several tests need: gardens in short words, and what the document says, told plainly."""

from itertools import product

from bedround.gardens import Garden


def crop(name, change=0, harvest=0, gap=0, bars=()):
    return (name, change, harvest, gap, list(bars))


def garden_of(crops, soils=(0,), top=5, wants=None):
    return Garden(list(soils), top, list(crops), dict(wants or {}))


def state_behind(garden, years):
    state = garden.start()
    for planting in years:
        state = garden.behind(state, planting)
    return state


class Told:
    """A garden by the words of points 3 to 5, over all the years so far instead of a cut state."""

    def __init__(self, crops, soils, top, wants):
        self.crops = crops
        self.soils = soils
        self.top = top
        self.wants = wants

    def soil(self, bed, years):
        soil = self.soils[bed]
        for planting in years:
            soil = min(self.top, soil + self.crops[planting[bed]][1])
        return soil

    def lets(self, bed, years, number):
        name, change, harvest, gap, bars = self.crops[number]
        stood = [planting[bed] for planting in years]
        if self.soil(bed, years) + change < 0:
            return False
        for back in range(1, gap + 1):
            if back <= len(stood) and stood[-back] == number:
                return False
        return not stood or self.crops[stood[-1]][0] not in bars

    def may(self, years):
        plantings = []
        for planting in product(range(len(self.crops)), repeat=len(self.soils)):
            names = [self.crops[number][0] for number in planting]
            if not all(self.lets(bed, years, number) for bed, number in enumerate(planting)):
                continue
            if all(least <= names.count(name) <= most for name, (least, most) in self.wants.items()):
                plantings.append(planting)
        return plantings

    def state(self, years):
        depth = max([1] + [one[3] for one in self.crops])
        beds = []
        for bed in range(len(self.soils)):
            stood = [planting[bed] for planting in reversed(years)]
            beds.append((self.soil(bed, years), tuple(stood[:depth])))
        return tuple(beds)
