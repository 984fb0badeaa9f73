"""The walk from corner to corner by itself, also with conditions that no blend has."""

import unittest

from pilesblends.cheapest import cheapest


class CheapestTest(unittest.TestCase):
    def test_no_unknowns(self):
        self.assertEqual(cheapest([], []), [])
        self.assertEqual(cheapest([], [[0], [5]]), [])
        self.assertIsNone(cheapest([], [[0], [-1]]))

    def test_nothing_is_asked(self):
        self.assertEqual(cheapest([3, 0], []), [(0, 1), (0, 1)])
        self.assertEqual(cheapest([3, 0], [[0, -1, 1], [4, -1, -1]]), [(0, 1), (0, 1)])

    def test_one_unknown(self):
        self.assertEqual(cheapest([7], [[-3, 2]]), [(3, 2)])
        self.assertEqual(cheapest([0], [[-3, 2], [5, -1], [-8, 4]]), [(2, 1)])
        self.assertIsNone(cheapest([7], [[-3, 2], [1, -1]]))
        self.assertEqual(cheapest([7], [[-3, 2], [3, -2]]), [(3, 2)])
        self.assertIsNone(cheapest([7], [[-3, 0]]))
        self.assertIsNone(cheapest([7], [[-3, -1]]))

    def test_of_equal_costs_the_least_first_unknown(self):
        self.assertEqual(cheapest([0, 0], [[-1, 1, 1]]), [(0, 1), (1, 1)])
        self.assertEqual(cheapest([2, 2, 2], [[-9, 1, 1, 1], [4, 0, 0, -1]]), [(0, 1), (5, 1), (4, 1)])
        self.assertEqual(cheapest([1, 1, 1], [[-9, 1, 1, 1], [4, 0, 0, -1], [3, 0, -1, 0]]), [(2, 1), (3, 1), (4, 1)])
        self.assertEqual(cheapest([0, 0], [[-2, 1, 0]]), [(2, 1), (0, 1)])

    def test_the_cost_comes_first(self):
        self.assertEqual(cheapest([1, 2], [[-1, 1, 1]]), [(1, 1), (0, 1)])
        self.assertEqual(cheapest([1, 2], [[-4, 1, 3]]), [(0, 1), (4, 3)])
        self.assertEqual(cheapest([3, 2], [[-4, 1, 3], [-3, 2, 1]]), [(1, 1), (1, 1)])

    def test_the_same_condition_many_times(self):
        self.assertEqual(cheapest([3, 2], [[-4, 1, 3], [-3, 2, 1]] * 7), [(1, 1), (1, 1)])
        self.assertEqual(cheapest([1, 1], [[-1, 1, 1], [-2, 2, 2], [1, -1, -1]]), [(0, 1), (1, 1)])

    def test_what_is_handed_in_stays(self):
        costs = [3, 2]
        conditions = [[-4, 1, 3], [-3, 2, 1]]
        cheapest(costs, conditions)
        self.assertEqual((costs, conditions), ([3, 2], [[-4, 1, 3], [-3, 2, 1]]))
