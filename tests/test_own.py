"""Point 1: nothing handed in is changed or kept, and what is told is the asker's own."""

import copy
import unittest

from bedround.errors import BadGarden, NoPlanting
from bedround.gardens import Garden
from bedround.harvests import best, best_round, harvest_of
from bedround.plans import endless, good, longest, plan_for
from bedround.states import all_states


def parts():
    crops = [("ash", -1, 5, 2, []), ("bean", 1, 3, 0, ["ash"]), ("corn", 0, 7, 1, ["bean", "corn"])]
    return [1, 2], 3, crops, {"ash": (0, 1), "corn": (0, 2)}


def short_parts():
    return [2, 3], 3, [("ash", -1, 5, 1, []), ("bean", -2, 3, 0, ["bean"])], {"ash": (1, 2)}


PLANS = ([], [(0, 1)], [(0, 1), (1, 0)], [(1, 1)], [(0, 1), (1, 1)])


def harvest_or_none(garden, plan):
    try:
        return harvest_of(garden, plan)
    except NoPlanting:
        return None


def whole(garden):
    """What all functions beside the garden's own tell."""
    told = [all_states(garden), longest(garden), endless(garden), best_round(garden)]
    told.extend([plan_for(garden, many) for many in range(8)])
    told.extend([best(garden, many) for many in range(8)])
    for plan in PLANS:
        told.extend([good(garden, list(plan)), harvest_or_none(garden, list(plan))])
    return told


def changeable(value):
    """All lists and dicts within a value, each as often as it stands there."""
    within = []
    if isinstance(value, (list, dict)):
        within.append(value)
    if isinstance(value, dict):
        value = list(value) + list(value.values())
    if isinstance(value, (list, tuple)):
        for part in value:
            within.extend(changeable(part))
    return within


def answers(garden, years=4):
    """All that a garden tells within so many years."""
    told = [garden.start()]
    states = [garden.start()]
    for year in range(years):
        following = []
        for state in states:
            for planting in garden.may(state):
                told.append((state, planting, garden.harvest(planting), garden.behind(state, planting)))
                following.append(garden.behind(state, planting))
        states = following
    return told


class HandedIn(unittest.TestCase):
    def test_what_is_handed_in_stays_as_it_was(self):
        handed = parts()
        garden = Garden(*handed)
        self.assertEqual(handed, parts())
        answers(garden)
        self.assertEqual(handed, parts())
        self.assertEqual(list(handed[3]), list(parts()[3]))

    def test_what_is_refused_stays_as_it_was(self):
        handed = parts()
        handed[3]["fern"] = (0, 1)
        before = copy.deepcopy(handed)
        with self.assertRaises(BadGarden):
            Garden(*handed)
        self.assertEqual(handed, before)

    def test_clearing_it_later_changes_no_answer(self):
        awaited = answers(Garden(*parts()))
        soils, top, crops, wants = parts()
        garden = Garden(soils, top, crops, wants)
        for one in crops:
            one[4].clear()
        self.assertEqual(answers(garden), awaited)
        soils.clear()
        self.assertEqual(answers(garden), awaited)
        crops.clear()
        self.assertEqual(answers(garden), awaited)
        wants.clear()
        self.assertEqual(answers(garden), awaited)

    def test_changing_it_later_changes_no_answer(self):
        awaited = answers(Garden(*parts()))
        soils, top, crops, wants = parts()
        garden = Garden(soils, top, crops, wants)
        for one in crops:
            one[4].extend(["ash", "bean", "corn"])
        self.assertEqual(answers(garden), awaited)
        soils[0] = 3
        soils.append(0)
        self.assertEqual(answers(garden), awaited)
        crops[0] = ("ash", 3, 900, 0, [])
        crops.append(("dill", 0, 1, 0, []))
        self.assertEqual(answers(garden), awaited)
        wants["ash"] = (2, 2)
        wants["bean"] = (0, 0)
        self.assertEqual(answers(garden), awaited)

    def test_two_gardens_of_the_same_lists_dont_hang_on_one_another(self):
        soils, top, crops, wants = parts()
        first = Garden(soils, top, crops, wants)
        wants["bean"] = (0, 0)
        second = Garden(soils, top, crops, wants)
        self.assertEqual(answers(first), answers(Garden(*parts())))
        self.assertNotEqual(answers(second), answers(first))


class Told(unittest.TestCase):
    def test_each_list_told_is_a_new_one(self):
        garden = Garden(*parts())
        first = garden.may(garden.start())
        second = garden.may(garden.start())
        self.assertEqual(first, second)
        self.assertIsNot(first, second)

    def test_an_empty_list_told_is_a_new_one_too(self):
        garden = Garden([0], 1, [("ash", -1, 0, 0, [])], {})
        first = garden.may(garden.start())
        self.assertEqual(first, [])
        first.append((0,))
        self.assertEqual(garden.may(garden.start()), [])

    def test_changing_a_list_told_changes_no_later_answer(self):
        awaited = answers(Garden(*parts()))
        garden = Garden(*parts())
        told = garden.may(garden.start())
        told.reverse()
        told.append((2, 2))
        self.assertEqual(answers(garden), awaited)
        told.clear()
        self.assertEqual(answers(garden), awaited)

    def test_asking_and_refusing_change_no_later_answer(self):
        garden = Garden(*parts())
        awaited = answers(Garden(*parts()))
        with self.assertRaises(NoPlanting):
            garden.behind(garden.start(), (0, 0))
        self.assertEqual(answers(garden), awaited)
        self.assertEqual(answers(garden), awaited)


class WholeProgram(unittest.TestCase):
    def test_the_gardens_here_have_answers_of_each_kind(self):
        self.assertIsNotNone(endless(Garden(*parts())))
        self.assertIsNotNone(best_round(Garden(*parts())))
        self.assertIsNotNone(longest(Garden(*short_parts())))
        self.assertIn([], all_states(Garden(*short_parts())).values())

    def test_no_two_lists_or_dicts_told_are_one(self):
        for some in (parts(), short_parts()):
            garden = Garden(*some)
            told = changeable([whole(garden), whole(garden), garden.may(garden.start())])
            self.assertEqual(len({id(one) for one in told}), len(told))

    def test_changing_what_was_told_changes_no_later_answer(self):
        for some in (parts(), short_parts()):
            garden = Garden(*some)
            awaited = whole(Garden(*some))
            for one in changeable(whole(garden)):
                one.clear()
            self.assertEqual(whole(garden), awaited)
            self.assertEqual(answers(garden), answers(Garden(*some)))
            for one in changeable(whole(garden)):
                if isinstance(one, list):
                    one.append((0, 0))
                else:
                    one["more"] = 1
            self.assertEqual(whole(garden), awaited)
            self.assertEqual(answers(garden), answers(Garden(*some)))

    def test_what_the_garden_was_made_of_may_change(self):
        for make in (parts, short_parts):
            awaited = whole(Garden(*make()))
            handed = make()
            garden = Garden(*handed)
            whole(garden)
            self.assertEqual(handed, make())
            for one in changeable(handed):
                one.clear()
            self.assertEqual(whole(garden), awaited)

    def test_a_plan_handed_in_stays_as_it_was_and_is_not_kept(self):
        garden = Garden(*parts())
        for plan in PLANS:
            handed = list(plan)
            first = (good(garden, handed), harvest_or_none(garden, handed))
            self.assertEqual(handed, plan)
            handed.append((7, 7))
            self.assertEqual((good(garden, list(plan)), harvest_or_none(garden, list(plan))), first)

    def test_answers_may_be_handed_in_again_and_changed(self):
        garden = Garden(*parts())
        plan = plan_for(garden, 4)
        harvest = harvest_of(garden, plan)
        plan.append((7, 7))
        self.assertFalse(good(garden, plan))
        self.assertEqual(harvest_of(garden, plan_for(garden, 4)), harvest)

    def test_the_order_of_asking_is_no_matter(self):
        for some in (parts(), short_parts()):
            garden = Garden(*some)
            last = [best_round(garden), endless(garden), longest(garden), all_states(garden)]
            self.assertEqual(list(reversed(last)), whole(Garden(*some))[:4])


if __name__ == "__main__":
    unittest.main()
