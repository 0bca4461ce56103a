"""Gardens: their beds and crops, and what may be planted in them.

A crop that is handed in is (name, change, harvest, gap, bars); within a garden it is its number.
"""

from bedround.errors import BadGarden, NoPlanting

MOST_BEDS = 3
MOST_CROPS = 5
MOST_TOP = 5
MOST_CHANGE = 3
MOST_HARVEST = 1000
MOST_GAP = 3
MOST_WANTED = 3


def is_within(value, least, most):
    # True and False would pass as 1 and 0, but are no whole numbers here.
    if isinstance(value, bool) or not isinstance(value, int):
        return False
    return least <= value <= most


def check_within(value, least, most, what):
    # The value stays out of the words: a number of very many digits can't be written out.
    if not is_within(value, least, most):
        raise BadGarden(f"{what} is not a number from {least} to {most}")


def check_name(name, names):
    if name not in names:
        raise BadGarden("a name of the bars or wants is that of no crop")


def check_beds(soils, top):
    check_within(top, 1, MOST_TOP, "the top")
    if not isinstance(soils, list):
        raise BadGarden("the soils are not a list")
    check_within(len(soils), 1, MOST_BEDS, "the count of beds")
    for soil in soils:
        check_within(soil, 0, top, "the soil of a bed")


def check_crop(crop):
    if not isinstance(crop, tuple) or len(crop) != 5:
        raise BadGarden("a crop is not a tuple of five")
    if not isinstance(crop[0], str) or crop[0] == "":
        raise BadGarden("the name of a crop is not a text, or is empty")
    check_within(crop[1], -MOST_CHANGE, MOST_CHANGE, "the change of a crop")
    check_within(crop[2], 0, MOST_HARVEST, "the harvest of a crop")
    check_within(crop[3], 0, MOST_GAP, "the gap of a crop")
    if not isinstance(crop[4], list):
        raise BadGarden("the bars of a crop are not a list")


def check_crops(crops):
    if not isinstance(crops, list):
        raise BadGarden("the crops are not a list")
    check_within(len(crops), 1, MOST_CROPS, "the count of crops")
    for crop in crops:
        check_crop(crop)
    names = names_of(crops)
    if len(set(names)) != len(names):
        raise BadGarden("two crops have the same name")
    for crop in crops:
        for name in crop[4]:
            check_name(name, names)


def check_wants(wants, names):
    if not isinstance(wants, dict):
        raise BadGarden("the wants are not a dict")
    for name, pair in wants.items():
        check_name(name, names)
        if not isinstance(pair, tuple) or len(pair) != 2:
            raise BadGarden("a want is not a pair")
        check_within(pair[1], 0, MOST_WANTED, "the most of a want")
        check_within(pair[0], 0, pair[1], "the least of a want")


def names_of(crops):
    return [crop[0] for crop in crops]


def numbers_of(some, names):
    return tuple([names.index(name) for name in some])


def lengthened(rows, crops):
    # Rows in order, each with all crops in order behind it, are in order again.
    longer = []
    for row in rows:
        longer.extend([row + (crop,) for crop in crops])
    return longer


class Garden:
    # Only numbers and tuples are kept, so that nothing hangs on the lists and dicts handed in.
    def __init__(self, soils, top, crops, wants):
        check_beds(soils, top)
        check_crops(crops)
        names = names_of(crops)
        check_wants(wants, names)
        self.soils = tuple(soils)
        self.top = top
        self.changes = tuple([crop[1] for crop in crops])
        self.harvests = tuple([crop[2] for crop in crops])
        self.gaps = tuple([crop[3] for crop in crops])
        self.bars = tuple([numbers_of(crop[4], names) for crop in crops])
        self.wants = tuple([(names.index(name), pair[0], pair[1]) for name, pair in wants.items()])
        # Bars look one year back, even where no gap does.
        self.depth = max(1, max(self.gaps))

    def start(self):
        return tuple([(soil, ()) for soil in self.soils])

    def may(self, state):
        rows = [()]
        for soil, stood in state:
            rows = lengthened(rows, self.crops_for(soil, stood))
        return [row for row in rows if self.meets_wants(row)]

    def behind(self, state, planting):
        if not self.fits(state, planting):
            raise NoPlanting("the planting may not be in this state")
        return self.beds_behind(state, planting)

    def harvest(self, planting):
        return sum([self.harvests[crop] for crop in planting])

    def crops_for(self, soil, stood):
        return [crop for crop in range(len(self.changes)) if self.lets(soil, stood, crop)]

    def lets(self, soil, stood, crop):
        if soil + self.changes[crop] < 0:
            return False
        if crop in stood[:self.gaps[crop]]:
            return False
        return len(stood) == 0 or stood[0] not in self.bars[crop]

    def meets_wants(self, planting):
        for crop, least, most in self.wants:
            if not least <= planting.count(crop) <= most:
                return False
        return True

    def fits(self, state, planting):
        if len(planting) != len(state):
            return False
        for bed, crop in zip(state, planting):
            # A number below nought would be taken as one counted from the last crop.
            if not 0 <= crop < len(self.changes):
                return False
            if not self.lets(bed[0], bed[1], crop):
                return False
        return self.meets_wants(planting)

    def beds_behind(self, state, planting):
        # For a planting that is known to be one that may be.
        return tuple([self.bed_behind(bed[0], bed[1], crop) for bed, crop in zip(state, planting)])

    def bed_behind(self, soil, stood, crop):
        row = (crop,) + stood
        return (min(self.top, soil + self.changes[crop]), row[:self.depth])
