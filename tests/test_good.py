"""Points 6 and 9, good and harvest_of: a plan that may be or not, and the harvest of one."""

import unittest
from itertools import product

from bedround.errors import BadGarden, BedError, NoPlanting
from bedround.harvests import harvest_of
from bedround.plans import good
from helper import crop, garden_of, tried


class GoodOrNot(unittest.TestCase):
    def may_be(self, garden, plan, harvest):
        before = list(plan)
        self.assertIs(good(garden, plan), True)
        told = harvest_of(garden, plan)
        self.assertIs(type(told), int)
        self.assertEqual(told, harvest)
        self.assertEqual(plan, before)

    def may_not_be(self, garden, plan):
        before = list(plan)
        self.assertIs(good(garden, plan), False)
        with self.assertRaises(NoPlanting) as caught:
            harvest_of(garden, plan)
        self.assertIsInstance(caught.exception, BedError)
        self.assertNotIsInstance(caught.exception, BadGarden)
        self.assertEqual(plan, before)


class ByHand(GoodOrNot):
    def setUp(self):
        crops = [crop("kale", -2, 90, 2), crop("bean", 1, 40, 1), crop("rye", 0, 5, 0, ["bean"])]
        self.garden = garden_of(crops, [2, 1], 3, {"kale": (0, 1)})

    def test_the_empty_plan(self):
        self.may_be(self.garden, [], 0)
        self.may_be(garden_of([crop("a", -1, 7)], [0]), [], 0)

    def test_plans_that_may_be(self):
        self.may_be(self.garden, [(0, 1)], 130)
        self.may_be(self.garden, [(0, 1), (2, 0)], 225)
        self.may_be(self.garden, [(0, 1), (2, 0), (1, 2)], 270)
        self.may_be(self.garden, [(2, 2)] * 30, 300)

    def test_the_only_planting_may_not_be(self):
        self.may_not_be(self.garden, [(0, 0)])
        self.may_not_be(self.garden, [(1, 0)])

    def test_the_first_planting_may_not_be(self):
        self.may_be(self.garden, [(2, 1), (2, 0), (2, 2)], 150)
        self.may_not_be(self.garden, [(2, 0), (2, 2), (2, 2)])

    def test_the_last_planting_may_not_be(self):
        self.may_not_be(self.garden, [(0, 1), (2, 0), (0, 2)])
        self.may_not_be(self.garden, [(2, 2), (2, 2), (0, 0)])

    def test_one_between_may_not_be(self):
        self.may_be(self.garden, [(0, 2), (1, 1), (1, 0)][:2], 175)
        self.may_not_be(self.garden, [(0, 2), (1, 1), (1, 0)])
        self.may_not_be(self.garden, [(0, 1), (2, 2), (2, 2)])
        self.may_not_be(self.garden, [(2, 2), (2, 2), (0, 0), (2, 2), (2, 2)])

    def test_a_planting_that_would_be_right_in_another_year(self):
        garden = garden_of([crop("give", 1, 1, 1), crop("take", -1, 8, 1)], [0], 1)
        self.may_be(garden, [(0,), (1,), (0,), (1,)], 18)
        self.may_not_be(garden, [(1,), (0,), (1,), (0,)])

    def test_by_soil_gap_bars_and_wants_alone(self):
        self.may_not_be(garden_of([crop("a", -1)], [1], 1), [(0,), (0,)])
        self.may_not_be(garden_of([crop("a", 0, 0, 1)], [1], 1), [(0,), (0,)])
        self.may_not_be(garden_of([crop("a", 0, 0, 0, ["a"])], [1], 1), [(0,), (0,)])
        self.may_not_be(garden_of([crop("a"), crop("b")], [0, 0], 1, {"b": (1, 2)}), [(0, 1), (0, 0)])
        self.may_not_be(garden_of([crop("a"), crop("b")], [0, 0], 1, {"b": (0, 1)}), [(0, 1), (1, 1)])

    def test_numbers_that_are_those_of_no_crop(self):
        for planting in ((3, 2), (2, 3), (-1, 2), (2, -1)):
            self.may_not_be(self.garden, [planting])
            self.may_not_be(self.garden, [(2, 2), planting, (2, 2)])

    def test_many_years(self):
        garden = garden_of([crop("a", 1, 1000, 0), crop("b", -1, 999, 0)], [0, 0, 0], 5)
        years = [(0, 0, 0), (1, 1, 1)] * 2000
        self.may_be(garden, years, 2000 * 5997)
        self.may_not_be(garden, years + [(1, 0, 0)])


class AgainstTheWords(GoodOrNot):
    def test_all_rows_of_few_years(self):
        for name, garden, told in tried():
            plantings = list(product(range(len(told.crops)), repeat=len(told.soils)))
            for many in range(4 if len(plantings) < 10 else 3):
                plans = told.plans(many)
                for row in product(plantings, repeat=many):
                    with self.subTest(name, row=row):
                        if list(row) in plans:
                            self.may_be(garden, list(row), told.harvest(row))
                        else:
                            self.may_not_be(garden, list(row))


if __name__ == "__main__":
    unittest.main()
