"""Promise [7]: subsets and their order."""

import unittest
from itertools import combinations

from everypart.errors import InvalidNumber
from everypart.graphs import Graph
from everypart.subsets import all_subsets, is_subset
from tests.helpers import assert_keeps, assert_tuples, nested, values_of_all_kinds


class IsSubsetTest(unittest.TestCase):

    def test_subsets(self):
        for size in range(1, 7):
            for count in range(size + 1):
                for part in combinations(range(size), count):
                    self.assertIs(is_subset(part, size), True)
        self.assertIs(is_subset((), 1), True)
        self.assertIs(is_subset(tuple(range(24)), 24), True)
        self.assertIs(is_subset(value=(0, 23), size=24), True)

    def test_tuples_that_are_none(self):
        for value in [(1,), (0, 1), (-1,), (-1, 0)]:
            self.assertIs(is_subset(value, 1), False)
        for value in [(0, 0), (1, 0), (0, 2, 1), (2, 2), (0, 1, 1), (0, 0, 1), (0, 3), (3,), (-1, 0, 1), (0, 10 ** 30)]:
            self.assertIs(is_subset(value, 3), False, value)

    def test_other_kinds(self):
        for value in values_of_all_kinds() + [0, 1, [], [0], [0, 1], (True,), (False,), (False, 1), (0, True), (0, None),
                                              ("0",), ((0,),), ([],), (0, (1,)), "01", Graph.path(3), (0, Graph.path(1))]:
            self.assertIs(is_subset(value, 24), False, value)

    def test_the_value_stays(self):
        value = [0, nested(1, 8)]
        self.assertIs(is_subset(value, 3), False)
        self.assertEqual(value, [0, nested(1, 8)])


class AllSubsetsTest(unittest.TestCase):

    def test_order(self):
        self.assertEqual(list(all_subsets(3)), [(), (0,), (1,), (2,), (0, 1), (0, 2), (1, 2), (0, 1, 2)])
        for size in range(1, 9):
            known = [part for count in range(size + 1) for part in combinations(range(size), count)]
            self.assertEqual([part for part in all_subsets(size)], known)
            self.assertEqual(list(all_subsets(size=size)), known)
            for part in all_subsets(size):
                assert_tuples(self, part)
                self.assertTrue(is_subset(part, size))

    def test_two_at_once(self):
        self.assertEqual([(a, b) for a in all_subsets(1) for b in all_subsets(1)],
                         [((), ()), ((), (0,)), ((0,), ()), ((0,), (0,))])

    def test_wrong_sizes(self):
        for size in [0, 9, 24, -1, 10 ** 30, True, False, None, "", "3", (3,), [3], (), nested(3, 10), Graph.path(3)]:
            assert_keeps(self, InvalidNumber, "value", size, lambda value: list(all_subsets(value)))


if __name__ == "__main__":
    unittest.main()
