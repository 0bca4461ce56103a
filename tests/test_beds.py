"""Point 3: when a bed lets a crop be planted, and the bed's soil behind the year."""

import unittest

from helper import crop, garden_of, state_behind


def crops_after(garden, numbers):
    """What the one bed of a garden lets be planted behind these crops."""
    state = state_behind(garden, [(number,) for number in numbers])
    return [planting[0] for planting in garden.may(state)]


class Soil(unittest.TestCase):
    def test_just_enough_and_one_too_little(self):
        for need in (1, 2, 3):
            crops = [crop("taker", -need), crop("rest")]
            with self.subTest(need=need):
                self.assertEqual(crops_after(garden_of(crops, [need]), []), [0, 1])
                self.assertEqual(crops_after(garden_of(crops, [need - 1]), []), [1])

    def test_crops_that_take_nothing_need_no_soil(self):
        crops = [crop("rest"), crop("giver", 3), crop("taker", -1)]
        self.assertEqual(crops_after(garden_of(crops, [0]), []), [0, 1])

    def test_the_soil_behind_the_year(self):
        garden = garden_of([crop("taker", -2), crop("giver", 1), crop("rest")], [3])
        self.assertEqual(garden.behind(garden.start(), (0,)), ((1, (0,)),))
        self.assertEqual(garden.behind(garden.start(), (1,)), ((4, (1,)),))
        self.assertEqual(garden.behind(garden.start(), (2,)), ((3, (2,)),))

    def test_the_soil_may_come_to_nought(self):
        garden = garden_of([crop("taker", -3)], [3])
        self.assertEqual(garden.behind(garden.start(), (0,)), ((0, (0,)),))

    def test_the_soil_is_kept_at_the_top(self):
        for top in range(1, 6):
            for soil in range(top + 1):
                garden = garden_of([crop("giver", 3)], [soil], top)
                with self.subTest(top=top, soil=soil):
                    behind = garden.behind(garden.start(), (0,))
                    self.assertEqual(behind[0][0], min(top, soil + 3))

    def test_what_went_over_the_top_is_lost(self):
        garden = garden_of([crop("giver", 3), crop("taker", -2)], [1], 2)
        self.assertEqual(state_behind(garden, [(0,), (1,)])[0][0], 0)
        self.assertEqual(crops_after(garden, [0, 1]), [0])

    def test_each_bed_has_its_own_soil(self):
        garden = garden_of([crop("taker", -1), crop("giver", 1)], [0, 1, 5])
        self.assertEqual(garden.may(garden.start()), [(1, 0, 0), (1, 0, 1), (1, 1, 0), (1, 1, 1)])
        self.assertEqual(garden.behind(garden.start(), (1, 0, 1)), ((1, (1,)), (0, (0,)), (5, (1,))))


class Gaps(unittest.TestCase):
    def test_the_years_between_as_the_gap_tells(self):
        for gap in range(4):
            garden = garden_of([crop("kale", gap=gap), crop("rest")])
            for years in range(6):
                with self.subTest(gap=gap, years=years):
                    awaited = [0, 1] if years >= gap else [1]
                    self.assertEqual(crops_after(garden, [0] + [1] * years), awaited)

    def test_with_a_gap_of_nought_it_stands_again_and_again(self):
        garden = garden_of([crop("kale", gap=0)])
        for years in range(6):
            self.assertEqual(crops_after(garden, [0] * years), [0])

    def test_a_gap_holds_from_the_last_time_it_stood(self):
        garden = garden_of([crop("kale", gap=2), crop("rest")])
        self.assertEqual(crops_after(garden, [0, 1, 1, 0]), [1])
        self.assertEqual(crops_after(garden, [0, 1, 1, 0, 1]), [1])
        self.assertEqual(crops_after(garden, [0, 1, 1, 0, 1, 1]), [0, 1])

    def test_each_crop_goes_by_its_own_gap(self):
        garden = garden_of([crop("a", gap=1), crop("b", gap=3), crop("c", gap=0), crop("d", gap=2)])
        self.assertEqual(crops_after(garden, [1, 3, 0]), [2])
        self.assertEqual(crops_after(garden, [1, 3, 0, 2]), [0, 1, 2, 3])
        self.assertEqual(crops_after(garden, [3, 1, 0, 2]), [0, 2, 3])
        self.assertEqual(crops_after(garden, [2, 2, 2]), [0, 1, 2, 3])

    def test_each_bed_has_its_own_years(self):
        garden = garden_of([crop("a", gap=1), crop("b")], [0, 0])
        state = garden.behind(garden.start(), (0, 1))
        self.assertEqual(garden.may(state), [(1, 0), (1, 1)])


class Bars(unittest.TestCase):
    def test_a_bar_against_last_years_crop(self):
        garden = garden_of([crop("leek", bars=["bean"]), crop("bean"), crop("oat")])
        self.assertEqual(crops_after(garden, [1]), [1, 2])
        self.assertEqual(crops_after(garden, [2]), [0, 1, 2])
        self.assertEqual(crops_after(garden, [0]), [0, 1, 2])

    def test_a_bar_looks_one_year_back_alone(self):
        garden = garden_of([crop("leek", bars=["bean"]), crop("bean", gap=3), crop("oat")])
        self.assertEqual(crops_after(garden, [1, 2]), [0, 2])
        self.assertEqual(crops_after(garden, [2, 1]), [2])

    def test_no_bar_in_the_first_year(self):
        names = ["leek", "bean", "oat"]
        garden = garden_of([crop(name, bars=names) for name in names])
        self.assertEqual(crops_after(garden, []), [0, 1, 2])
        self.assertEqual(crops_after(garden, [0]), [])

    def test_each_of_several_bars_holds(self):
        garden = garden_of([crop("leek", bars=["oat", "bean"]), crop("bean"), crop("oat"), crop("pea")])
        self.assertEqual(crops_after(garden, [1]), [1, 2, 3])
        self.assertEqual(crops_after(garden, [2]), [1, 2, 3])
        self.assertEqual(crops_after(garden, [3]), [0, 1, 2, 3])

    def test_a_crop_that_bars_itself_with_a_gap_of_nought(self):
        garden = garden_of([crop("leek", bars=["leek"]), crop("bean")])
        self.assertEqual(crops_after(garden, [0]), [1])
        self.assertEqual(crops_after(garden, [0, 1]), [0, 1])

    def test_a_bar_is_one_way(self):
        garden = garden_of([crop("leek", bars=["bean"]), crop("bean")])
        self.assertEqual(crops_after(garden, [0]), [0, 1])

    def test_a_bar_holds_in_the_bed_alone(self):
        garden = garden_of([crop("leek", bars=["bean"]), crop("bean")], [0, 0])
        state = garden.behind(garden.start(), (1, 0))
        self.assertEqual(garden.may(state), [(1, 0), (1, 1)])


if __name__ == "__main__":
    unittest.main()
