"""Stretches [8], held against sets of numbers."""

import copy
import itertools
import random
import unittest

from freshsheet.stretches import joined_up, less_others

GREAT = 10 ** 60 - 1


def numbers_in(some):
    return {number for low, high in some for number in range(low, high + 1)}


def plain_list(numbers):
    """The plain list of a set of numbers, number by number."""
    told = []
    for number in sorted(numbers):
        if told and told[-1][1] + 1 == number:
            told[-1] = (told[-1][0], number)
        else:
            told.append((number, number))
    return told


def some_stretches(chance, most):
    stretches = []
    for k in range(chance.randint(0, most)):
        low = chance.randint(-12, 12)
        stretches.append((low, low + chance.choice([0, 0, 1, 2, 5, 9])))
    return stretches


def moved(some, far):
    return [(low + far, high + far) for low, high in some]


class JoinedUpTest(unittest.TestCase):
    def test_none(self):
        self.assertEqual(joined_up([]), [])

    def test_a_single_one(self):
        for stretch in ((5, 5), (0, 0), (-3, 4), (-GREAT, GREAT), (GREAT, GREAT)):
            self.assertEqual(joined_up([stretch]), [stretch])

    def test_alike_ones(self):
        self.assertEqual(joined_up([(1, 4), (1, 4), (1, 4)]), [(1, 4)])
        self.assertEqual(joined_up([(7, 7), (7, 7)]), [(7, 7)])

    def test_nested_ones(self):
        self.assertEqual(joined_up([(1, 9), (3, 4)]), [(1, 9)])
        self.assertEqual(joined_up([(3, 4), (1, 9)]), [(1, 9)])
        self.assertEqual(joined_up([(1, 9), (1, 4), (5, 9), (9, 9)]), [(1, 9)])
        self.assertEqual(joined_up([(1, 9), (2, 3), (5, 12)]), [(1, 12)])

    def test_overlapping_ones(self):
        self.assertEqual(joined_up([(1, 4), (4, 6)]), [(1, 6)])
        self.assertEqual(joined_up([(3, 8), (1, 4), (8, 9)]), [(1, 9)])

    def test_neighbours_and_a_gap_of_one(self):
        self.assertEqual(joined_up([(1, 4), (5, 6)]), [(1, 6)])
        self.assertEqual(joined_up([(5, 6), (1, 4)]), [(1, 6)])
        self.assertEqual(joined_up([(1, 4), (6, 6)]), [(1, 4), (6, 6)])
        self.assertEqual(joined_up([(6, 6), (1, 4), (5, 5)]), [(1, 6)])

    def test_below_nought(self):
        self.assertEqual(joined_up([(0, 2), (-5, -1)]), [(-5, 2)])
        self.assertEqual(joined_up([(-2, -2), (-9, -4)]), [(-9, -4), (-2, -2)])

    def test_sixty_figures(self):
        self.assertEqual(joined_up([(1, GREAT), (-GREAT, 0)]), [(-GREAT, GREAT)])
        self.assertEqual(joined_up([(2, GREAT), (-GREAT, 0)]), [(-GREAT, 0), (2, GREAT)])
        self.assertEqual(joined_up([(GREAT, GREAT), (GREAT - 1, GREAT - 1)]), [(GREAT - 1, GREAT)])
        self.assertEqual(joined_up([(GREAT, GREAT), (GREAT - 2, GREAT - 2)]),
                         [(GREAT - 2, GREAT - 2), (GREAT, GREAT)])

    def test_in_any_order(self):
        some = [(1, 3), (3, 5), (7, 7), (9, 12), (10, 11)]
        for order in itertools.permutations(some):
            self.assertEqual(joined_up(list(order)), [(1, 5), (7, 7), (9, 12)])

    def test_many_held_against_numbers(self):
        chance = random.Random(1)
        for k in range(2000):
            some = some_stretches(chance, 7)
            told = joined_up(some)
            self.assertEqual(told, plain_list(numbers_in(some)), some)
            far = chance.choice([GREAT - 30, 30 - GREAT])
            self.assertEqual(joined_up(moved(some, far)), moved(told, far), some)


class LessOthersTest(unittest.TestCase):
    def test_nothing_in_one_or_both(self):
        self.assertEqual(less_others([], []), [])
        self.assertEqual(less_others([], [(1, 5)]), [])
        self.assertEqual(less_others([(4, 5), (1, 2), (3, 3), (9, 9)], []), [(1, 5), (9, 9)])

    def test_a_list_less_itself(self):
        for some in ([(1, 5)], [(9, 9), (1, 5), (2, 7)], [(-GREAT, GREAT)], [(1, 1), (1, 1)]):
            self.assertEqual(less_others(some, some), [])
            self.assertEqual(less_others(some, list(some)), [])

    def test_ends_and_middles(self):
        self.assertEqual(less_others([(1, 9)], [(4, 6)]), [(1, 3), (7, 9)])
        self.assertEqual(less_others([(1, 9)], [(1, 1), (9, 9)]), [(2, 8)])
        self.assertEqual(less_others([(1, 9)], [(-5, 3), (8, 20)]), [(4, 7)])
        self.assertEqual(less_others([(1, 9)], [(0, 10)]), [])
        self.assertEqual(less_others([(1, 9)], [(10, 12), (-3, 0)]), [(1, 9)])
        self.assertEqual(less_others([(1, 3)], [(2, 2)]), [(1, 1), (3, 3)])

    def test_one_over_several(self):
        self.assertEqual(less_others([(1, 2), (4, 5), (7, 8)], [(2, 7)]), [(1, 1), (8, 8)])
        self.assertEqual(less_others([(7, 8), (1, 2), (4, 5)], [(5, 7), (2, 4)]), [(1, 1), (8, 8)])

    def test_both_unsorted_and_overlapping(self):
        self.assertEqual(less_others([(8, 9), (1, 4), (3, 6)], [(9, 9), (2, 3), (3, 3)]), [(1, 1), (4, 6), (8, 8)])

    def test_sixty_figures(self):
        self.assertEqual(less_others([(-GREAT, GREAT)], [(0, 0)]), [(-GREAT, -1), (1, GREAT)])
        self.assertEqual(less_others([(-GREAT, GREAT)], [(-GREAT, GREAT - 1)]), [(GREAT, GREAT)])

    def test_many_held_against_numbers(self):
        chance = random.Random(2)
        for k in range(3000):
            some = some_stretches(chance, 5)
            others = some_stretches(chance, 5)
            told = less_others(some, others)
            self.assertEqual(told, plain_list(numbers_in(some) - numbers_in(others)), (some, others))
            far = chance.choice([GREAT - 30, 30 - GREAT])
            self.assertEqual(less_others(moved(some, far), moved(others, far)), moved(told, far), (some, others))

    def test_long_lists(self):
        some = [(4 * k, 4 * k + 2) for k in range(20000)]
        others = [(4 * k + 1, 4 * k + 1) for k in range(20000)]
        told = less_others(list(reversed(some)), others)
        self.assertEqual(len(told), 40000)
        self.assertEqual(told[:3], [(0, 0), (2, 2), (4, 4)])


class OwnListsTest(unittest.TestCase):
    def test_what_is_handed_in_stays(self):
        some = [(5, 9), (1, 2), (3, 3), (5, 9)]
        others = [(7, 7), (2, 2), (2, 3)]
        kept = copy.deepcopy((some, others))
        joined_up(some)
        less_others(some, others)
        less_others(some, some)
        self.assertEqual((some, others), kept)

    def test_each_answer_is_a_list_of_its_own(self):
        for some in ([], [(1, 2)], [(1, 2), (4, 5)]):
            for call in (joined_up, lambda one: less_others(one, []), lambda one: less_others(one, [(8, 8)])):
                first = call(some)
                self.assertIs(type(first), list)
                self.assertIsNot(first, some)
                self.assertTrue(all(type(stretch) is tuple for stretch in first))
                kept = list(first)
                first.append((100, 200))
                self.assertEqual(call(some), kept)
                self.assertEqual(some, kept)

    def test_later_changes_of_what_was_handed_in(self):
        some = [(1, 2), (4, 5)]
        told = joined_up(some)
        less = less_others(some, [])
        some.clear()
        self.assertEqual((told, less), ([(1, 2), (4, 5)], [(1, 2), (4, 5)]))


if __name__ == "__main__":
    unittest.main()
