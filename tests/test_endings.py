"""Points 7 and 8, longest and endless: either plans of every number of years, or a greatest number."""

import unittest

from bedround.plans import endless, good, longest, plan_for
from helper import PARTS, crop, garden_of, state_behind, tried


def greatest(states, start):
    """The greatest number of years by a walk over all states at once, or None where there is none."""
    years = 0
    standing = {start}
    while True:
        standing = {behind for state in standing for planting, behind in states[state]}
        if not standing:
            return years
        years += 1
        # A way of more years than there are states comes to one of them twice, and so goes on for ever.
        if years > len(states):
            return None


class Walked(unittest.TestCase):
    def check_endless(self, garden):
        self.assertIsNone(longest(garden))
        told = endless(garden)
        self.assertIs(type(told), tuple)
        self.assertEqual([type(part) for part in told], [list, list])
        years, ring = told
        self.assertGreaterEqual(len(ring), 1)
        for planting in years + ring:
            self.assertIs(type(planting), tuple)
        state = state_behind(garden, years)
        self.assertEqual(state_behind(garden, ring, state), state)
        self.assertEqual(state_behind(garden, ring + ring, state), state)
        self.assertTrue(good(garden, years + ring + ring))

    def check_longest(self, garden, most):
        self.assertIsNone(endless(garden))
        told = longest(garden)
        self.assertIs(type(told), tuple)
        self.assertEqual([type(part) for part in told], [int, list])
        self.assertEqual(told[0], most)
        self.assertEqual(len(told[1]), most)
        self.assertTrue(good(garden, told[1]))
        self.assertEqual(told[1], plan_for(garden, most))
        self.assertIsNone(plan_for(garden, most + 1))


class ByHand(Walked):
    def test_nothing_may_be_planted_at_the_beginning(self):
        for name in ("nothing may be planted", "nothing may be wanted"):
            garden = garden_of(*PARTS[name])
            self.assertEqual(longest(garden), (0, []))
            self.assertIsNone(endless(garden))

    def test_one_year_alone(self):
        garden = garden_of(*PARTS["a gap ends it"])
        self.assertEqual(longest(garden), (1, [(0, 0)]))
        self.check_longest(garden, 1)

    def test_the_first_of_the_longest_plans(self):
        garden = garden_of([crop("a", -2), crop("b", -1), crop("c", -1)], [4], 5)
        self.assertEqual(longest(garden), (4, [(1,)] * 4))
        garden = garden_of([crop("a", -2, 0, 3), crop("b", -1, 0, 1), crop("c", -1, 0, 1)], [4], 5)
        self.assertEqual(longest(garden), (4, [(1,), (2,), (1,), (2,)]))
        garden = garden_of([crop("a", -2, 0, 3), crop("b", -1, 0, 2), crop("c", -1, 0, 2)], [4], 5)
        self.assertEqual(longest(garden), (3, [(0,), (1,), (2,)]))

    def test_the_soil_runs_out(self):
        garden = garden_of(*PARTS["the soil runs out"])
        self.assertEqual(longest(garden), (5, [(1,)] * 5))
        self.check_longest(garden, 5)

    def test_a_round_of_one_planting(self):
        garden = garden_of(*PARTS["one crop for ever"])
        self.check_endless(garden)
        self.assertEqual(set(endless(garden)[1]), {(0,)})

    def test_a_round_that_is_not_on_the_first_way(self):
        garden = garden_of(*PARTS["the first crop is a dead end"])
        self.check_endless(garden)
        self.assertEqual(set(endless(garden)[1]), {(1,)})

    def test_a_round_of_several_plantings(self):
        garden = garden_of(*PARTS["gaps make a round of four"])
        self.check_endless(garden)
        self.assertEqual(len(endless(garden)[1]) % 4, 0)

    def test_the_years_ahead_are_not_in_the_round(self):
        garden = garden_of([crop("a", 1)], [0], 5)
        years, ring = endless(garden)
        self.assertGreaterEqual(len(years), 5)
        self.check_endless(garden)

    def test_ways_that_meet_make_no_round(self):
        # Behind two years it is no matter which crop stood in the first, so ways meet there.
        garden = garden_of([crop("a", -1), crop("b", -1), crop("c", -1)], [3, 3], 3)
        self.check_longest(garden, 3)

    def test_many_states_that_all_end(self):
        garden = garden_of([crop("a", -1, 0, 3), crop("b", -1, 0, 2), crop("c", -1, 0, 1)], [5, 5], 5)
        self.assertEqual(longest(garden)[0], 5)
        self.check_longest(garden, 5)

    def test_many_beds_and_crops_that_go_on(self):
        crops = [crop("a", 2, 0, 3), crop("b", -2, 0, 3), crop("c", -1, 0, 2), crop("d", 1, 0, 2), crop("e", 0, 0, 1)]
        self.check_endless(garden_of(crops, [2, 5, 0], 5, {}))
        self.check_endless(garden_of(crops, [2, 5, 0], 5, {"a": (0, 1), "e": (0, 1)}))


class AgainstASearch(Walked):
    def test_one_has_an_answer_just_where_the_other_has_none(self):
        kinds = {True: 0, False: 0}
        for name, garden, told in tried():
            with self.subTest(name):
                most = greatest(told.states(), garden.start())
                kinds[most is None] += 1
                if most is None:
                    self.check_endless(garden)
                else:
                    self.check_longest(garden, most)
        self.assertGreater(min(kinds.values()), 20)

    def test_the_longest_plan_is_the_first_of_all(self):
        for name, garden, told in tried():
            answer = longest(garden)
            if answer is not None:
                with self.subTest(name):
                    self.assertEqual(answer[1], min(told.plans(answer[0])))
                    self.assertEqual(told.plans(answer[0] + 1), [])


if __name__ == "__main__":
    unittest.main()
