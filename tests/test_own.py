"""Point 1: nothing handed in is changed or kept, and what is told is the asker's own."""

import copy
import unittest

from bedround.errors import BadGarden, NoPlanting
from bedround.gardens import Garden


def parts():
    crops = [("ash", -1, 5, 2, []), ("bean", 1, 3, 0, ["ash"]), ("corn", 0, 7, 1, ["bean", "corn"])]
    return [1, 2], 3, crops, {"ash": (0, 1), "corn": (0, 2)}


def answers(garden, years=4):
    """All that a garden tells within so many years."""
    told = [garden.start()]
    states = [garden.start()]
    for year in range(years):
        following = []
        for state in states:
            for planting in garden.may(state):
                told.append((state, planting, garden.harvest(planting), garden.behind(state, planting)))
                following.append(garden.behind(state, planting))
        states = following
    return told


class HandedIn(unittest.TestCase):
    def test_what_is_handed_in_stays_as_it_was(self):
        handed = parts()
        garden = Garden(*handed)
        self.assertEqual(handed, parts())
        answers(garden)
        self.assertEqual(handed, parts())
        self.assertEqual(list(handed[3]), list(parts()[3]))

    def test_what_is_refused_stays_as_it_was(self):
        handed = parts()
        handed[3]["fern"] = (0, 1)
        before = copy.deepcopy(handed)
        with self.assertRaises(BadGarden):
            Garden(*handed)
        self.assertEqual(handed, before)

    def test_clearing_it_later_changes_no_answer(self):
        awaited = answers(Garden(*parts()))
        soils, top, crops, wants = parts()
        garden = Garden(soils, top, crops, wants)
        for one in crops:
            one[4].clear()
        self.assertEqual(answers(garden), awaited)
        soils.clear()
        self.assertEqual(answers(garden), awaited)
        crops.clear()
        self.assertEqual(answers(garden), awaited)
        wants.clear()
        self.assertEqual(answers(garden), awaited)

    def test_changing_it_later_changes_no_answer(self):
        awaited = answers(Garden(*parts()))
        soils, top, crops, wants = parts()
        garden = Garden(soils, top, crops, wants)
        for one in crops:
            one[4].extend(["ash", "bean", "corn"])
        self.assertEqual(answers(garden), awaited)
        soils[0] = 3
        soils.append(0)
        self.assertEqual(answers(garden), awaited)
        crops[0] = ("ash", 3, 900, 0, [])
        crops.append(("dill", 0, 1, 0, []))
        self.assertEqual(answers(garden), awaited)
        wants["ash"] = (2, 2)
        wants["bean"] = (0, 0)
        self.assertEqual(answers(garden), awaited)

    def test_two_gardens_of_the_same_lists_dont_hang_on_one_another(self):
        soils, top, crops, wants = parts()
        first = Garden(soils, top, crops, wants)
        wants["bean"] = (0, 0)
        second = Garden(soils, top, crops, wants)
        self.assertEqual(answers(first), answers(Garden(*parts())))
        self.assertNotEqual(answers(second), answers(first))


class Told(unittest.TestCase):
    def test_each_list_told_is_a_new_one(self):
        garden = Garden(*parts())
        first = garden.may(garden.start())
        second = garden.may(garden.start())
        self.assertEqual(first, second)
        self.assertIsNot(first, second)

    def test_an_empty_list_told_is_a_new_one_too(self):
        garden = Garden([0], 1, [("ash", -1, 0, 0, [])], {})
        first = garden.may(garden.start())
        self.assertEqual(first, [])
        first.append((0,))
        self.assertEqual(garden.may(garden.start()), [])

    def test_changing_a_list_told_changes_no_later_answer(self):
        awaited = answers(Garden(*parts()))
        garden = Garden(*parts())
        told = garden.may(garden.start())
        told.reverse()
        told.append((2, 2))
        self.assertEqual(answers(garden), awaited)
        told.clear()
        self.assertEqual(answers(garden), awaited)

    def test_asking_and_refusing_change_no_later_answer(self):
        garden = Garden(*parts())
        awaited = answers(Garden(*parts()))
        with self.assertRaises(NoPlanting):
            garden.behind(garden.start(), (0, 0))
        self.assertEqual(answers(garden), awaited)
        self.assertEqual(answers(garden), awaited)


if __name__ == "__main__":
    unittest.main()
