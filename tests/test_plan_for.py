"""Point 6, plan_for: the first plan of so many years in order, or None."""

import unittest

from bedround.plans import good, plan_for
from helper import PARTS, crop, garden_of, tried


class ByHand(unittest.TestCase):
    def test_nought_years(self):
        for name, garden, told in tried():
            self.assertEqual(plan_for(garden, 0), [])

    def test_one_year(self):
        garden = garden_of([crop("a", -2), crop("b", -1), crop("c")], [1, 2])
        self.assertEqual(plan_for(garden, 1), [(1, 0)])
        self.assertIsNone(plan_for(garden_of([crop("a", -1)], [0]), 1))

    def test_the_first_way_may_be_a_dead_end(self):
        garden = garden_of(*PARTS["the first crop is a dead end"])
        self.assertEqual(plan_for(garden, 1), [(0,)])
        self.assertEqual(plan_for(garden, 2), [(1,), (0,)])
        self.assertEqual(plan_for(garden, 5), [(1,)] * 4 + [(0,)])

    def test_turning_back_over_several_years(self):
        # Soil 2 behind b leaves two years: too few behind (a, b), enough behind (b, b, b).
        garden = garden_of([crop("a", -2), crop("b", -1)], [5], 5)
        self.assertEqual(plan_for(garden, 2), [(0,), (0,)])
        self.assertEqual(plan_for(garden, 3), [(0,), (0,), (1,)])
        self.assertEqual(plan_for(garden, 4), [(0,), (1,), (1,), (1,)])
        self.assertEqual(plan_for(garden, 5), [(1,)] * 5)
        self.assertIsNone(plan_for(garden, 6))

    def test_more_years_than_there_are_plans_for(self):
        garden = garden_of([crop("a", -1)], [3, 4], 5)
        self.assertEqual(plan_for(garden, 3), [(0, 0)] * 3)
        for many in (4, 5, 50, 10 ** 9):
            self.assertIsNone(plan_for(garden, many))

    def test_many_years(self):
        garden = garden_of([crop("a", -1), crop("b", 1, 0, 1)], [0, 0, 0], 5)
        plan = plan_for(garden, 5000)
        self.assertEqual(plan, [(1, 1, 1), (0, 0, 0)] * 2500)
        garden = garden_of(*PARTS["the first crop is a dead end"])
        self.assertEqual(plan_for(garden, 5000), [(1,)] * 4999 + [(0,)])

    def test_it_is_told_soon_where_many_ways_end(self):
        # Each way ends behind some years, and there are far more ways than states.
        crops = [crop("a", -1, 1, 0), crop("b", -1, 2, 0), crop("c", -1, 3, 0)]
        garden = garden_of(crops, [5, 5, 5], 5)
        self.assertEqual(plan_for(garden, 5), [(0, 0, 0)] * 5)
        self.assertIsNone(plan_for(garden, 6))

    def test_fewer_years_than_none(self):
        self.assertIsNone(plan_for(garden_of([crop("a")], [0]), -1))


class AgainstAllPlans(unittest.TestCase):
    def test_the_first_in_order(self):
        for name, garden, told in tried():
            for many in range(5 if len(told.soils) == 1 else 4):
                with self.subTest(name, many=many):
                    plans = told.plans(many)
                    self.assertEqual(plan_for(garden, many), min(plans, default=None))

    def test_years_beyond_these_may_be(self):
        for name, garden, told in tried():
            plan = plan_for(garden, 40)
            if plan is not None:
                self.assertEqual(len(plan), 40)
                self.assertTrue(good(garden, plan))
                # Each shorter plan is the same or comes ahead, since this one shortened is one too.
                for many in range(40):
                    self.assertLessEqual(plan_for(garden, many), plan[:many])

    def test_a_list_of_tuples(self):
        for name, garden, told in tried():
            plan = plan_for(garden, 2)
            if plan is not None:
                self.assertIs(type(plan), list)
                self.assertEqual([type(planting) for planting in plan], [tuple, tuple])


if __name__ == "__main__":
    unittest.main()
