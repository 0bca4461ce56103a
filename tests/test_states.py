"""Point 5: what a state is, and that all answers go by it as points 3 and 4 say."""

import unittest
from itertools import product

from bedround.errors import NoPlanting
from bedround.gardens import Garden
from helper import Told, crop, garden_of, state_behind


class States(unittest.TestCase):
    def test_the_beginning(self):
        crops = [crop("a", gap=3)]
        self.assertEqual(garden_of(crops, [4]).start(), ((4, ()),))
        self.assertEqual(garden_of(crops, [4, 0]).start(), ((4, ()), (0, ())))
        self.assertEqual(garden_of(crops, [1, 5, 0]).start(), ((1, ()), (5, ()), (0, ())))

    def test_rows_are_cut_at_the_greatest_gap_and_hold_one_at_least(self):
        for first, second in product(range(4), repeat=2):
            depth = max(1, first, second)
            garden = garden_of([crop("a", gap=first), crop("b", gap=second), crop("c"), crop("d")])
            numbers = [0, 1, 2, 3, 2]
            for years in range(len(numbers) + 1):
                with self.subTest(first=first, second=second, years=years):
                    state = state_behind(garden, [(number,) for number in numbers[:years]])
                    awaited = tuple(reversed(numbers[:years]))[:depth]
                    self.assertEqual(state, ((0, awaited),))

    def test_last_years_crop_is_first_in_each_bed(self):
        garden = garden_of([crop("a", gap=2), crop("b"), crop("c")], [0, 1, 2])
        state = state_behind(garden, [(0, 1, 2), (1, 2, 0), (2, 0, 1)])
        self.assertEqual(state, ((0, (2, 1)), (1, (0, 2)), (2, (1, 0))))

    def test_a_state_handed_in_stays_as_it_was(self):
        garden = garden_of([crop("a", 1)], [0])
        state = garden.start()
        garden.behind(state, (0,))
        garden.may(state)
        self.assertEqual(state, ((0, ()),))

    def test_tuples_throughout(self):
        garden = garden_of([crop("a", gap=2), crop("b")], [0, 0])
        for years in ([], [(0, 1)], [(0, 1), (1, 0)], [(0, 1), (1, 0), (1, 1)]):
            state = state_behind(garden, years)
            self.assertIsInstance(state, tuple)
            for bed in state:
                self.assertIsInstance(bed, tuple)
                self.assertEqual(len(bed), 2)
                self.assertIsInstance(bed[0], int)
                self.assertIsInstance(bed[1], tuple)


class AgainstTheWords(unittest.TestCase):
    """Each answer along all years of many gardens is the one that all the years so far ask for."""

    def check(self, crops, soils, top, wants, years):
        garden = Garden(list(soils), top, crops, wants)
        told = Told(crops, soils, top, wants)
        plantings = list(product(range(len(crops)), repeat=len(soils)))
        rows = [((), garden.start())]
        for year in range(years + 1):
            following = []
            for row, state in rows:
                self.assertEqual(state, told.state(row))
                fitting = told.may(row)
                self.assertEqual(garden.may(state), fitting)
                for planting in plantings:
                    if planting in fitting:
                        following.append((row + (planting,), garden.behind(state, planting)))
                    else:
                        self.assertRaises(NoPlanting, garden.behind, state, planting)
            rows = following

    def test_one_bed_and_two_crops(self):
        bars = ([], ["a"], ["b"], ["b", "a"])
        one = list(product((-1, 0, 2), range(4), bars))
        for place, (first, second) in enumerate(product(one, repeat=2)):
            crops = [crop("a", first[0], 0, first[1], first[2]), crop("b", second[0], 0, second[1], second[2])]
            self.check(crops, [place % 3], 2, {}, 5)

    def test_one_bed_and_five_crops(self):
        crops = [
            crop("a", -3, 0, 3, []),
            crop("b", 2, 0, 2, ["a"]),
            crop("c", -1, 0, 1, ["b", "d"]),
            crop("d", 1, 0, 0, ["d"]),
            crop("e", 0, 0, 2, ["c"]),
        ]
        for soil in range(5):
            self.check(crops, [soil], 4, {}, 6)

    def test_two_beds_with_wants(self):
        pairs = [(least, most) for most in range(3) for least in range(most + 1)]
        for first, second in product(pairs, repeat=2):
            crops = [crop("a", -2, 0, 1), crop("b", 1, 0, 2, ["c"]), crop("c", 0, 0, 0, ["c"])]
            self.check(crops, [1, 2], 3, {"c": first, "a": second}, 3)

    def test_three_beds_with_wants(self):
        crops = [crop("a", -1, 0, 0, ["a"]), crop("b", 1, 0, 3, ["c"]), crop("c", 0, 0, 1)]
        self.check(crops, [0, 1, 2], 2, {"b": (0, 1), "a": (1, 2)}, 4)
        self.check(crops, [0, 1, 2], 2, {"c": (1, 1)}, 3)


if __name__ == "__main__":
    unittest.main()
