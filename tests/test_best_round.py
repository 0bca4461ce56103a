"""Points 8, 10 and 11, best_round: the greatest harvest a year of a round, such a round, and heights."""

import unittest
from fractions import Fraction
from math import gcd

from bedround.harvests import best_round, harvest_of
from bedround.plans import endless
from bedround.states import all_states
from helper import PARTS, Told, crop, garden_of, state_behind, tried


def rates_of_rounds(told):
    """The harvests a year of all rounds that come to no state twice; each round is made up of such."""
    states = told.states()
    places = {state: place for place, state in enumerate(states)}
    rates = set()

    def go_on(first, state, passed, harvest):
        for planting, behind in states[state]:
            total = harvest + told.harvest([planting])
            if behind == first:
                rates.add(Fraction(total, len(passed)))
            elif behind not in passed and places[behind] > places[first]:
                go_on(first, behind, passed | {behind}, total)

    for state in states:
        go_on(state, state, {state}, 0)
    return rates


class Checked(unittest.TestCase):
    def check(self, garden):
        told = best_round(garden)
        self.assertIs(type(told), tuple)
        self.assertEqual([type(part) for part in told], [tuple, list, list, dict])
        self.check_rate(told[0])
        self.check_round(garden, told[0], told[1], told[2])
        self.check_heights(garden, told[0], told[3])
        return Fraction(*told[0])

    def check_rate(self, rate):
        self.assertEqual([type(part) for part in rate], [int, int])
        self.assertGreaterEqual(rate[0], 0)
        self.assertGreaterEqual(rate[1], 1)
        self.assertEqual(gcd(*rate), 1)

    def check_round(self, garden, rate, years, ring):
        for planting in years + ring:
            self.assertIs(type(planting), tuple)
        self.assertGreaterEqual(len(ring), 1)
        state = state_behind(garden, years)
        self.assertEqual(state_behind(garden, ring, state), state)
        self.assertEqual(state_behind(garden, ring + ring, state), state)
        harvest = harvest_of(garden, years + ring) - harvest_of(garden, years)
        self.assertEqual(harvest * rate[1], rate[0] * len(ring))

    def check_heights(self, garden, rate, heights):
        states = all_states(garden)
        self.assertEqual(set(heights), set(states))
        for state, moves in states.items():
            self.assertIs(type(heights[state]), int)
            self.assertGreaterEqual(heights[state], 0)
            for planting, behind in moves:
                reached = rate[1] * garden.harvest(planting) - rate[0] + heights[behind]
                self.assertLessEqual(reached, heights[state])


class ByHand(Checked):
    def test_no_round(self):
        for name in ("nothing may be planted", "nothing may be wanted", "a gap ends it", "the soil runs out",
                     "every way ends late"):
            self.assertIsNone(best_round(garden_of(*PARTS[name])))

    def test_a_round_of_one_planting(self):
        garden = garden_of([crop("a", 0, 5)], [2], 3)
        self.assertEqual(self.check(garden), 5)
        self.assertEqual(best_round(garden)[0], (5, 1))

    def test_harvests_of_nought(self):
        self.assertEqual(best_round(garden_of([crop("a", 0, 0)], [0]))[0], (0, 1))
        garden = garden_of([crop(name, 0, 0, 3) for name in "abcd"], [0])
        self.assertEqual(best_round(garden)[0], (0, 1))
        self.check(garden)
        garden = garden_of(*PARTS["no harvest"])
        self.assertEqual(best_round(garden)[0], (0, 1))
        self.check(garden)

    def test_a_fraction(self):
        garden = garden_of([crop("rest", 1, 0), crop("take", -2, 7)], [0], 5)
        self.assertEqual(best_round(garden)[0], (7, 3))
        self.check(garden)

    def test_lowest_terms(self):
        garden = garden_of([crop(name, 0, harvest, 3) for name, harvest in zip("abcd", (1, 2, 3, 4))], [0])
        self.assertEqual(best_round(garden)[0], (5, 2))
        self.check(garden)
        garden = garden_of([crop(name, 0, harvest, 3) for name, harvest in zip("abcd", (1, 2, 3, 6))], [0])
        self.assertEqual(best_round(garden)[0], (3, 1))
        self.check(garden)

    def test_a_dead_end_that_brings_in_more_is_no_round(self):
        garden = garden_of([crop("a", 0, 1000, 0, "a"), crop("b", 0, 1, 0, "a")], [0])
        self.assertEqual(best_round(garden)[0], (1, 1))
        self.check(garden)

    def test_a_great_harvest_ahead_of_the_round_is_not_part_of_it(self):
        # The soil gives a once, and nothing brings it back.
        garden = garden_of([crop("a", -3, 1000), crop("b", 0, 1)], [3], 5)
        self.assertEqual(best_round(garden)[0], (1, 1))
        self.check(garden)

    def test_the_best_round_may_be_far_from_the_beginning(self):
        # 3 a year may be had at once, with a alone; 5 a year takes three years of b for each of c.
        crops = [crop("a", 0, 3), crop("b", 1, 0), crop("c", -3, 20, 1)]
        garden = garden_of(crops, [0], 5)
        self.assertEqual(best_round(garden)[0], (5, 1))
        self.check(garden)

    def test_a_round_that_the_beginning_does_not_lead_to_counts_for_nothing(self):
        # Gold and its maker would go round for ever, but without the maker no way leads from soil 0 to gold.
        crops = [crop("gold", -3, 900), crop("maker", 3, 0, 0, ["rye", "maker"]), crop("rye", 0, 2, 0, ["gold"])]
        garden = garden_of(crops, [3], 5, {"rye": (0, 0)})
        self.assertEqual(best_round(garden)[0], (450, 1))
        garden = garden_of(crops, [0], 5, {"maker": (0, 0)})
        self.assertEqual(best_round(garden)[0], (2, 1))
        self.check(garden)

    def test_two_that_are_close(self):
        # 999 and 1000 in turn are a little more a year than 999 alone.
        crops = [crop("a", 0, 999), crop("b", 0, 1000, 1)]
        garden = garden_of(crops, [0])
        self.assertEqual(best_round(garden)[0], (1999, 2))
        self.check(garden)
        garden = garden_of(crops, [0, 0, 0], wants={"b": (0, 2)})
        self.check(garden)
        self.assertEqual(best_round(garden)[0], (5997, 2))

    def test_the_greatest_harvests(self):
        garden = garden_of([crop("a", 0, 1000)], [0, 0, 0])
        self.assertEqual(best_round(garden)[0], (3000, 1))
        self.check(garden)


class AgainstAllRounds(Checked):
    def test_none_has_a_greater_harvest_a_year(self):
        compared = 0
        for name, garden, told in tried():
            # Of more states there may be too many rounds to tell out.
            if len(told.states()) > 20:
                continue
            with self.subTest(name):
                rates = rates_of_rounds(told)
                if rates:
                    compared += 1
                    self.assertEqual(self.check(garden), max(rates))
                else:
                    self.assertIsNone(best_round(garden))
        self.assertGreater(compared, 40)

    def test_the_heights_rule_out_a_greater_one(self):
        for name, garden, told in tried():
            with self.subTest(name):
                if endless(garden) is None:
                    self.assertIsNone(best_round(garden))
                else:
                    self.check(garden)

    def test_larger_ones(self):
        crops = [crop("a", 2, 4, 1), crop("b", -2, 9, 2), crop("c", -1, 3, 1, ["a"]), crop("d", 1, 2, 2)]
        alone = self.check(garden_of(crops, [2], 5))
        self.assertEqual(alone, Fraction(31, 6))
        # Beds without wants don't hang on one another.
        self.assertEqual(self.check(garden_of(crops, [2, 1], 5)), 2 * alone)
        self.check(garden_of(crops, [2, 1, 0], 5, {"a": (1, 1), "b": (0, 1)}))


class Rounds(unittest.TestCase):
    """That the test's own search tells rounds out as it should."""

    def test_of_two_states(self):
        told = Told([crop("a", 0, 3), crop("b", 0, 8, 1)], [0], 1, {})
        self.assertEqual(rates_of_rounds(told), {3, Fraction(11, 2)})

    def test_of_none(self):
        self.assertEqual(rates_of_rounds(Told([crop("a", -1, 3)], [3], 5, {})), set())


if __name__ == "__main__":
    unittest.main()
