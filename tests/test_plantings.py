"""Points 4 and 9: when a planting may be, the order of plantings, NoPlanting, and the harvest."""

import unittest
from itertools import product

from bedround.errors import BadGarden, BedError, NoPlanting
from helper import crop, garden_of, state_behind


class May(unittest.TestCase):
    def test_all_plantings_in_order_for_one_two_and_three_beds(self):
        for beds in (1, 2, 3):
            for many in range(1, 6):
                garden = garden_of([crop(str(number)) for number in range(many)], [0] * beds)
                with self.subTest(beds=beds, many=many):
                    self.assertEqual(garden.may(garden.start()), list(product(range(many), repeat=beds)))

    def test_the_order_goes_by_numbers_and_not_by_names(self):
        garden = garden_of([crop("z"), crop("m"), crop("a")], [0, 0])
        self.assertEqual(garden.may(garden.start())[:4], [(0, 0), (0, 1), (0, 2), (1, 0)])

    def test_some_are_ruled_out_at_each_bed(self):
        garden = garden_of([crop("a", -2), crop("b", -1), crop("c")], [1, 2, 0])
        awaited = [(1, 0, 2), (1, 1, 2), (1, 2, 2), (2, 0, 2), (2, 1, 2), (2, 2, 2)]
        self.assertEqual(garden.may(garden.start()), awaited)

    def test_where_no_planting_may_be(self):
        self.assertEqual(garden_of([crop("a", -1)], [0]).may(((0, ()),)), [])
        for soils in ([0, 1], [1, 0]):
            garden = garden_of([crop("a", -1)], soils)
            self.assertEqual(garden.may(garden.start()), [])
        garden = garden_of([crop("a"), crop("b")], [0], wants={"a": (0, 0), "b": (0, 0)})
        self.assertEqual(garden.may(garden.start()), [])

    def test_a_list_of_tuples(self):
        garden = garden_of([crop("a")], [0])
        told = garden.may(garden.start())
        self.assertIsInstance(told, list)
        self.assertEqual([isinstance(planting, tuple) for planting in told], [True])


class Wants(unittest.TestCase):
    def may(self, beds, wants):
        garden = garden_of([crop("a"), crop("b")], [0] * beds, wants=wants)
        return garden.may(garden.start())

    def test_the_least_rules_plantings_out(self):
        self.assertEqual(self.may(2, {"b": (1, 3)}), [(0, 1), (1, 0), (1, 1)])
        self.assertEqual(self.may(2, {"b": (2, 3)}), [(1, 1)])
        self.assertEqual(self.may(3, {"a": (2, 3)}), [(0, 0, 0), (0, 0, 1), (0, 1, 0), (1, 0, 0)])
        self.assertEqual(self.may(3, {"a": (3, 3)}), [(0, 0, 0)])

    def test_the_most_rules_plantings_out(self):
        self.assertEqual(self.may(2, {"b": (0, 1)}), [(0, 0), (0, 1), (1, 0)])
        self.assertEqual(self.may(2, {"b": (0, 0)}), [(0, 0)])
        self.assertEqual(self.may(3, {"a": (0, 1)}), [(0, 1, 1), (1, 0, 1), (1, 1, 0), (1, 1, 1)])

    def test_least_and_most_alike(self):
        self.assertEqual(self.may(2, {"a": (1, 1)}), [(0, 1), (1, 0)])
        self.assertEqual(self.may(1, {"a": (1, 1)}), [(0,)])

    def test_a_least_above_the_number_of_beds(self):
        self.assertEqual(self.may(1, {"a": (2, 3)}), [])
        self.assertEqual(self.may(2, {"a": (3, 3)}), [])

    def test_wants_that_rule_nothing_out(self):
        self.assertEqual(self.may(2, {"a": (0, 3), "b": (0, 2)}), self.may(2, {}))

    def test_every_want_holds_whatever_their_order(self):
        for wants in ({"a": (1, 3), "b": (0, 1)}, {"b": (0, 1), "a": (1, 3)}):
            self.assertEqual(self.may(2, wants), [(0, 0), (0, 1), (1, 0)])
        for wants in ({"a": (1, 1), "b": (0, 0)}, {"b": (0, 0), "a": (1, 1)}):
            self.assertEqual(self.may(2, wants), [])
            self.assertEqual(self.may(1, wants), [(0,)])

    def test_wants_hold_every_year(self):
        garden = garden_of([crop("a", gap=1), crop("b")], [0, 0], wants={"a": (1, 2)})
        state = state_behind(garden, [(0, 1)])
        self.assertEqual(garden.may(state), [(1, 0)])
        self.assertEqual(garden.may(state_behind(garden, [(0, 0)])), [])


class Behind(unittest.TestCase):
    def refused(self, garden, state, planting):
        self.assertNotIn(planting, garden.may(state))
        with self.assertRaises(NoPlanting) as caught:
            garden.behind(state, planting)
        return caught.exception

    def test_refused_by_soil_at_each_bed(self):
        crops = [crop("taker", -1), crop("rest")]
        for bed in range(3):
            soils = [1, 1, 1]
            soils[bed] = 0
            garden = garden_of(crops, soils)
            self.refused(garden, garden.start(), (0, 0, 0))

    def test_refused_by_gap(self):
        for gap in (1, 2, 3):
            garden = garden_of([crop("kale", gap=gap), crop("rest")])
            for between in range(gap):
                state = state_behind(garden, [(0,)] + [(1,)] * between)
                self.refused(garden, state, (0,))
            state = state_behind(garden, [(0,)] + [(1,)] * gap)
            self.assertEqual(garden.behind(state, (0,))[0][1][0], 0)

    def test_refused_by_bars(self):
        garden = garden_of([crop("leek", bars=["bean"]), crop("bean", bars=["bean"])], [0, 0])
        state = state_behind(garden, [(0, 1)])
        self.refused(garden, state, (0, 0))
        self.refused(garden, state, (1, 1))

    def test_refused_by_wants(self):
        garden = garden_of([crop("a"), crop("b")], [0, 0], wants={"a": (1, 1)})
        self.refused(garden, garden.start(), (0, 0))
        self.refused(garden, garden.start(), (1, 1))
        self.assertEqual(garden.behind(garden.start(), (1, 0)), ((0, (1,)), (0, (0,))))

    def test_refused_where_a_number_is_that_of_no_crop(self):
        garden = garden_of([crop("a"), crop("b")], [0, 0])
        for planting in ((-1, 0), (0, -1), (-2, -2), (2, 0), (0, 2), (7, 7)):
            self.refused(garden, garden.start(), planting)

    def test_refused_where_there_is_not_one_crop_for_each_bed(self):
        garden = garden_of([crop("a"), crop("b")], [0, 0])
        for planting in ((), (0,), (0, 0, 0)):
            self.refused(garden, garden.start(), planting)

    def test_the_refusal_is_a_bed_error_and_a_value_error_alone(self):
        garden = garden_of([crop("a", -1)], [0])
        refusal = self.refused(garden, garden.start(), (0,))
        self.assertIsInstance(refusal, BedError)
        self.assertIsInstance(refusal, ValueError)
        self.assertNotIsInstance(refusal, BadGarden)


class Harvest(unittest.TestCase):
    def setUp(self):
        self.crops = [crop("a", harvest=0), crop("b", harvest=7), crop("c", -3, 1000, 3, ["c"])]

    def test_one_bed(self):
        garden = garden_of(self.crops, [0])
        self.assertEqual([garden.harvest((number,)) for number in range(3)], [0, 7, 1000])

    def test_two_beds(self):
        garden = garden_of(self.crops, [0, 0])
        self.assertEqual(garden.harvest((0, 1)), 7)
        self.assertEqual(garden.harvest((1, 0)), 7)
        self.assertEqual(garden.harvest((1, 1)), 14)
        self.assertEqual(garden.harvest((2, 1)), 1007)

    def test_three_beds(self):
        garden = garden_of(self.crops, [5, 5, 5])
        self.assertEqual(garden.harvest((0, 0, 0)), 0)
        self.assertEqual(garden.harvest((0, 1, 2)), 1007)
        self.assertEqual(garden.harvest((2, 2, 2)), 3000)

    def test_a_planting_that_may_not_be_just_then(self):
        garden = garden_of(self.crops, [0, 0], wants={"b": (0, 0)})
        for planting, awaited in (((2, 2), 2000), ((1, 1), 14), ((1, 2), 1007)):
            self.assertNotIn(planting, garden.may(garden.start()))
            self.assertEqual(garden.harvest(planting), awaited)


if __name__ == "__main__":
    unittest.main()
