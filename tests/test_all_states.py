"""Points 4 and 5, all_states: each state that the beginning leads to, and no other, with its plantings."""

import unittest
from itertools import product

from bedround.states import all_states
from helper import Told, crop, garden_of, tried


class ByHand(unittest.TestCase):
    def test_nothing_may_be_planted_at_the_beginning(self):
        garden = garden_of([crop("a", -1)], [0])
        self.assertEqual(all_states(garden), {((0, ()),): []})
        garden = garden_of([crop("a", -1), crop("b")], [0, 0, 0], wants={"a": (1, 3)})
        self.assertEqual(all_states(garden), {((0, ()), (0, ()), (0, ())): []})

    def test_a_chain_that_ends(self):
        garden = garden_of([crop("a", -1)], [2], 3)
        self.assertEqual(all_states(garden), {
            ((2, ()),): [((0,), ((1, (0,)),))],
            ((1, (0,)),): [((0,), ((0, (0,)),))],
            ((0, (0,)),): [],
        })

    def test_a_state_that_leads_to_itself(self):
        garden = garden_of([crop("a", 1)], [1], 1)
        self.assertEqual(all_states(garden), {
            ((1, ()),): [((0,), ((1, (0,)),))],
            ((1, (0,)),): [((0,), ((1, (0,)),))],
        })

    def test_two_beds_that_take_turns(self):
        garden = garden_of([crop("a", 0, 0, 1), crop("b", 0, 0, 1)], [0, 1], 1, {"a": (1, 1)})
        first = ((0, (0,)), (1, (1,)))
        second = ((0, (1,)), (1, (0,)))
        self.assertEqual(all_states(garden), {
            ((0, ()), (1, ())): [((0, 1), first), ((1, 0), second)],
            first: [((1, 0), second)],
            second: [((0, 1), first)],
        })

    def test_states_that_differ_in_rows_alone_are_several(self):
        garden = garden_of([crop("a", 0, 0, 2), crop("b")], [0])
        rows = sorted(state[0][1] for state in all_states(garden))
        self.assertEqual(rows, [(), (0,), (0, 1), (1,), (1, 0), (1, 1)])


class AgainstASearch(unittest.TestCase):
    def test_each_garden(self):
        for name, garden, told in tried():
            with self.subTest(name):
                self.assertEqual(all_states(garden), told.states())

    def test_there_are_some_of_each_sort_among_them(self):
        sorts = {}
        for name, garden, told in tried():
            bars = any(one[4] for one in told.crops)
            sort = (len(told.soils), bool(told.wants), bars)
            sorts[sort] = max(len(told.states()), sorts.get(sort, 0))
        for sort in product((1, 2, 3), (False, True), (False, True)):
            with self.subTest(sort):
                self.assertGreater(sorts.get(sort, 0), 10)

    def test_larger_ones(self):
        crops = [crop("a", 2, 4, 1), crop("b", -2, 9, 2), crop("c", -1, 3, 1, ["a"]), crop("d", 1, 2, 2)]
        for soils, top, wants in (([2], 5, {}), ([2, 1], 3, {}), ([2, 1, 0], 2, {"a": (1, 1), "b": (0, 1)})):
            found = all_states(garden_of(crops, soils, top, wants))
            self.assertGreater(len(found), 40)
            self.assertEqual(found, Told(crops, soils, top, wants).states())

    def test_the_plantings_are_those_that_the_garden_tells(self):
        for name, garden, told in tried():
            for state, moves in all_states(garden).items():
                self.assertEqual([planting for planting, behind in moves], garden.may(state))
                self.assertEqual([behind for planting, behind in moves],
                                 [garden.behind(state, planting) for planting in garden.may(state)])


class Kinds(unittest.TestCase):
    def test_a_dict_of_lists_of_tuples(self):
        for name, garden, told in tried():
            found = all_states(garden)
            self.assertIs(type(found), dict)
            for state, moves in found.items():
                self.assertIs(type(state), tuple)
                self.assertIs(type(moves), list)
                for move in moves:
                    self.assertIs(type(move), tuple)
                    self.assertEqual([type(part) for part in move], [tuple, tuple])


if __name__ == "__main__":
    unittest.main()
