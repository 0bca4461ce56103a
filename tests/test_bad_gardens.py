"""Point 2: what a garden is, its bounds, and BadGarden for what is not so."""

import unittest

from bedround.errors import BadGarden, BedError, NoPlanting
from bedround.gardens import Garden
from helper import crop

NAMES = ("ash", "bean", "corn", "dill", "elm")


def five_crops():
    return [crop(name) for name in NAMES]


def with_at(values, place, value):
    changed = list(values)
    changed[place] = value
    return changed


class GardenBounds(unittest.TestCase):
    def taken(self, soils=(0,), top=5, crops=None, wants=None):
        crops = [crop("ash")] if crops is None else crops
        garden = Garden(list(soils), top, crops, {} if wants is None else wants)
        self.assertEqual([soil for soil, stood in garden.start()], list(soils))
        return garden

    def refused(self, soils=(0,), top=5, crops=None, wants=None):
        crops = [crop("ash")] if crops is None else crops
        with self.assertRaises(BadGarden) as caught:
            Garden(list(soils), top, crops, {} if wants is None else wants)
        return caught.exception


class Taken(GardenBounds):
    def test_one_to_three_beds(self):
        for many in (1, 2, 3):
            with self.subTest(many=many):
                self.taken(soils=[0] * many)

    def test_every_top_and_every_soil_up_to_it_at_each_bed(self):
        for top in range(1, 6):
            for soil in range(top + 1):
                for bed in range(3):
                    with self.subTest(top=top, soil=soil, bed=bed):
                        self.taken(soils=with_at([0, 0, 0], bed, soil), top=top)

    def test_one_to_five_crops(self):
        for many in range(1, 6):
            with self.subTest(many=many):
                garden = self.taken(crops=five_crops()[:many])
                self.assertEqual(garden.may(garden.start()), [(number,) for number in range(many)])

    def test_each_change_harvest_and_gap_within_bounds_at_each_crop(self):
        fitting = [dict(change=change) for change in range(-3, 4)]
        fitting += [dict(harvest=harvest) for harvest in (0, 1, 999, 1000)]
        fitting += [dict(gap=gap) for gap in range(4)]
        for place in range(5):
            for told in fitting:
                with self.subTest(place=place, told=told):
                    self.taken(crops=with_at(five_crops(), place, crop(NAMES[place], **told)))

    def test_names_are_any_texts_that_differ(self):
        self.taken(crops=[crop(" "), crop("  "), crop("a"), crop("A"), crop("\n")])

    def test_bars_none_its_own_all_and_one_twice(self):
        for place in range(5):
            for bars in ([], [NAMES[place]], list(NAMES), ["ash", "ash"]):
                with self.subTest(place=place, bars=bars):
                    self.taken(crops=with_at(five_crops(), place, crop(NAMES[place], bars=bars)))

    def test_a_bar_may_name_a_crop_further_on(self):
        self.taken(crops=[crop("ash", bars=["bean"]), crop("bean", bars=["ash"])])

    def test_wants_none_and_each_pair_within_bounds_for_each_crop(self):
        self.taken(crops=five_crops(), wants={})
        for most in range(4):
            for least in range(most + 1):
                for name in NAMES:
                    with self.subTest(name=name, least=least, most=most):
                        self.taken(crops=five_crops(), wants={name: (least, most)})
        self.taken(crops=five_crops(), wants={name: (0, 3) for name in NAMES})

    def test_all_at_their_greatest(self):
        crops = [crop(name, 3, 1000, 3, NAMES) for name in NAMES]
        self.taken([5, 5, 5], 5, crops, {name: (3, 3) for name in NAMES})

    def test_all_at_their_least(self):
        self.taken([0], 1, [crop("a", -3, 0, 0)], {"a": (0, 0)})


class Refused(GardenBounds):
    def test_no_bed_and_a_fourth_bed(self):
        self.refused(soils=[])
        self.refused(soils=[0, 0, 0, 0])
        self.refused(soils=[0] * 7)

    def test_no_crop_and_a_sixth_crop(self):
        self.refused(crops=[])
        self.refused(crops=five_crops() + [crop("fern")])

    def test_top_beyond_its_bounds(self):
        for top in (-1, 0, 6, 7):
            with self.subTest(top=top):
                self.refused(top=top)

    def test_soil_beyond_its_bounds_at_each_bed(self):
        for many in (1, 2, 3):
            for bed in range(many):
                for top in range(1, 6):
                    for soil in (-2, -1, top + 1, top + 2):
                        with self.subTest(many=many, bed=bed, top=top, soil=soil):
                            self.refused(soils=with_at([0] * many, bed, soil), top=top)

    def test_an_empty_name_at_each_crop(self):
        for place in range(5):
            with self.subTest(place=place):
                self.refused(crops=with_at(five_crops(), place, crop("")))

    def test_two_names_alike_at_each_two_crops(self):
        for first in range(5):
            for second in range(5):
                if first != second:
                    with self.subTest(first=first, second=second):
                        self.refused(crops=with_at(five_crops(), first, crop(NAMES[second])))

    def test_change_harvest_and_gap_beyond_their_bounds_at_each_crop(self):
        beyond = [dict(change=change) for change in (-5, -4, 4, 5)]
        beyond += [dict(harvest=harvest) for harvest in (-2, -1, 1001, 1002)]
        beyond += [dict(gap=gap) for gap in (-2, -1, 4, 5)]
        for place in range(5):
            for told in beyond:
                with self.subTest(place=place, told=told):
                    self.refused(crops=with_at(five_crops(), place, crop(NAMES[place], **told)))

    def test_a_bar_that_is_no_crops_name_at_each_crop_and_place(self):
        for place in range(5):
            for bars in (["fern"], [""], ["Ash"], ["fern", "ash"], ["ash", "fern"], ["ash", "fern", "bean"]):
                with self.subTest(place=place, bars=bars):
                    self.refused(crops=with_at(five_crops(), place, crop(NAMES[place], bars=bars)))

    def test_a_want_whose_name_is_no_crops_at_each_place(self):
        for wants in (
            {"fern": (0, 3)},
            {"": (0, 3)},
            {"fern": (0, 3), "ash": (0, 3)},
            {"ash": (0, 3), "fern": (0, 3)},
            {"ash": (0, 3), "fern": (0, 3), "bean": (0, 3)},
        ):
            with self.subTest(wants=wants):
                self.refused(crops=five_crops(), wants=wants)

    def test_a_pair_beyond_its_bounds_at_each_want(self):
        for pair in ((-1, 0), (-1, 3), (-2, -1), (0, 4), (3, 4), (4, 4), (1, 0), (3, 2), (3, 0), (0, -1), (4, 3)):
            for name in NAMES:
                with self.subTest(pair=pair, name=name):
                    wants = {one: (0, 3) for one in NAMES}
                    wants[name] = pair
                    self.refused(crops=five_crops(), wants=wants)
                    self.refused(crops=five_crops(), wants={name: pair})

    def test_numbers_of_very_many_digits(self):
        huge = 10 ** 6000
        self.refused(soils=[huge])
        self.refused(top=huge)
        self.refused(crops=[crop("ash", harvest=huge)])
        self.refused(wants={"ash": (0, huge)})

    def test_what_is_not_in_the_form_told(self):
        for told in (
            dict(soils=[True]),
            dict(soils=["0"]),
            dict(soils=[None]),
            dict(top=True),
            dict(top="5"),
            dict(crops=(crop("ash"),)),
            dict(crops=[list(crop("ash"))]),
            dict(crops=[crop("ash")[:4]]),
            dict(crops=[crop("ash") + (0,)]),
            dict(crops=[(7, 0, 0, 0, [])]),
            dict(crops=[("ash", True, 0, 0, [])]),
            dict(crops=[("ash", 0, "0", 0, [])]),
            dict(crops=[("ash", 0, 0, None, [])]),
            dict(crops=[("ash", 0, 0, 0, ("ash",))]),
            dict(crops=[("ash", 0, 0, 0, "ash")]),
            dict(crops=[("ash", 0, 0, 0, [0])]),
            dict(wants=[("ash", (0, 3))]),
            dict(wants={0: (0, 3)}),
            dict(wants={"ash": [0, 3]}),
            dict(wants={"ash": (0,)}),
            dict(wants={"ash": (0, 1, 3)}),
            dict(wants={"ash": (False, 3)}),
            dict(wants={"ash": (0, True)}),
        ):
            with self.subTest(told=told):
                self.refused(**told)
        with self.assertRaises(BadGarden):
            Garden((0,), 5, [crop("ash")], {})

    def test_the_refusal_is_a_bed_error_and_a_value_error_alone(self):
        refusal = self.refused(soils=[])
        self.assertIsInstance(refusal, BedError)
        self.assertIsInstance(refusal, ValueError)
        self.assertNotIsInstance(refusal, NoPlanting)


if __name__ == "__main__":
    unittest.main()
