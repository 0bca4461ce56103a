"""Points 9 and 10, best: the greatest harvest of so many years, and the first plan that has it."""

import unittest

from bedround.harvests import best, harvest_of
from bedround.plans import plan_for
from helper import PARTS, crop, garden_of, tried


class ByHand(unittest.TestCase):
    def test_nought_years(self):
        for name, garden, told in tried():
            self.assertEqual(best(garden, 0), (0, []))

    def test_one_year(self):
        garden = garden_of([crop("a", 0, 3), crop("b", -1, 8), crop("c", -2, 9)], [1, 5], 5)
        self.assertEqual(best(garden, 1), (17, [(1, 2)]))

    def test_no_plan(self):
        self.assertIsNone(best(garden_of([crop("a", -1, 9)], [0]), 1))
        garden = garden_of([crop("a", -1, 9), crop("b", -2, 50)], [3], 5)
        self.assertEqual(best(garden, 3), (27, [(0,), (0,), (0,)]))
        for many in (4, 5, 10 ** 9):
            self.assertIsNone(best(garden, many))

    def test_what_is_greatest_this_year_may_not_be_over_the_years(self):
        garden = garden_of([crop("a", -2, 50), crop("b", -1, 30)], [2], 2)
        self.assertEqual(best(garden, 1), (50, [(0,)]))
        self.assertEqual(best(garden, 2), (60, [(1,), (1,)]))

    def test_a_great_harvest_that_leaves_no_plan_behind_it(self):
        garden = garden_of(*PARTS["the first crop is a dead end"])
        self.assertEqual(best(garden, 1), (9, [(0,)]))
        self.assertEqual(best(garden, 4), (12, [(1,), (1,), (1,), (0,)]))

    def test_a_dead_end_is_no_plan_even_where_all_else_is_nought(self):
        garden = garden_of([crop("a", 0, 1000, 0, "ab"), crop("b", 0, 0, 0, "a")], [0])
        self.assertEqual(best(garden, 1), (1000, [(0,)]))
        self.assertEqual(best(garden, 3), (0, [(1,), (1,), (1,)]))

    def test_of_several_the_first(self):
        garden = garden_of([crop("a", 0, 4), crop("b", 0, 4)], [0, 0])
        self.assertEqual(best(garden, 3), (24, [(0, 0)] * 3))
        garden = garden_of([crop("low", 0, 1), crop("b", 0, 4, 1), crop("c", 0, 4, 1)], [0])
        self.assertEqual(best(garden, 4), (16, [(1,), (2,), (1,), (2,)]))
        # The first crop brings in least, and yet comes first where all come to the same in the end.
        garden = garden_of([crop("a", 0, 1, 0, "b"), crop("b", 0, 5, 1, "b")], [0])
        self.assertEqual(best(garden, 2), (6, [(0,), (1,)]))

    def test_no_harvest_at_all(self):
        garden = garden_of(*PARTS["no harvest"])
        for many in range(6):
            self.assertEqual(best(garden, many), (0, plan_for(garden, many)))

    def test_a_state_that_comes_in_several_years(self):
        garden = garden_of([crop("rest", 1, 0), crop("take", -2, 7)], [0], 5)
        self.assertEqual(best(garden, 3), (7, [(0,), (0,), (1,)]))
        self.assertEqual(best(garden, 6), (14, [(0,), (0,), (0,), (0,), (1,), (1,)]))
        self.assertEqual(best(garden, 7), (14, [(0,), (0,), (0,), (0,), (0,), (1,), (1,)]))

    def test_many_years(self):
        garden = garden_of([crop("rest", 1, 0), crop("take", -2, 7)], [0, 0], 2)
        harvest, plan = best(garden, 900)
        self.assertEqual(harvest, 2 * 300 * 7)
        self.assertEqual(len(plan), 900)
        self.assertEqual(harvest_of(garden, plan), harvest)

    def test_few_years_of_a_large_garden(self):
        # There are far more states in all than two years can lead to.
        crops = [crop(name, change, harvest, 3) for name, change, harvest in
                 (("a", 2, 1), ("b", -2, 6), ("c", -1, 4), ("d", 1, 2), ("e", 0, 3))]
        garden = garden_of(crops, [2, 5, 0], 5)
        self.assertEqual(best(garden, 1), (15, [(1, 1, 4)]))
        # Over both years the beds bring in 6 + 3, 6 + 4 and, with soil for b behind a, 1 + 6.
        self.assertEqual(best(garden, 2), (26, [(1, 1, 0), (4, 2, 1)]))

    def test_fewer_years_than_none(self):
        self.assertIsNone(best(garden_of([crop("a")], [0]), -1))


class AgainstAllPlans(unittest.TestCase):
    def test_the_greatest_and_the_first_that_has_it(self):
        several = 0
        for name, garden, told in tried():
            for many in range(6 if len(told.soils) == 1 else 4):
                with self.subTest(name, many=many):
                    plans = told.plans(many)
                    if not plans:
                        self.assertIsNone(best(garden, many))
                        continue
                    most = max(told.harvest(plan) for plan in plans)
                    as_good = [plan for plan in plans if told.harvest(plan) == most]
                    several += len(as_good) > 1
                    self.assertEqual(best(garden, many), (most, min(as_good)))
        self.assertGreater(several, 50)

    def test_a_tuple_of_a_number_and_a_list_of_tuples(self):
        for name, garden, told in tried():
            answer = best(garden, 2)
            if answer is not None:
                self.assertIs(type(answer), tuple)
                self.assertEqual([type(part) for part in answer], [int, list])
                self.assertEqual([type(planting) for planting in answer[1]], [tuple, tuple])


if __name__ == "__main__":
    unittest.main()
