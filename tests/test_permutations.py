"""Promise [28]: orders, their inversion graphs, piles and falls."""

import unittest
from itertools import combinations, permutations

from everypart.errors import InvalidOrder
from everypart.graphs import Graph
from everypart.perfect import is_perfect
from everypart.permutations import inversion_graph, longest_fall, piles
from everypart.shares import Share
from tests.helpers import (Dice, assert_keeps, assert_tuples, exchanged, is_clique_plainly, nested,
                           values_of_all_kinds, variants)

ALL = (inversion_graph, piles, longest_fall)


def drawn_orders(size, count):
    for seed in range(count):
        yield tuple(Dice(seed * 13 + size).mixed(range(size)))


def is_order_plainly(value):
    if value.__class__ is not tuple or not 1 <= len(value) <= 24:
        return False
    return all(member.__class__ is int for member in value) and sorted(value) == list(range(len(value)))


def piles_plainly(order):
    """Each number at the end of the first pile that it fits, piles being told by their numbers' places."""
    pile_of = {}
    for number in order:
        pile = 0
        while any(other > number for other in pile_of if pile_of[other] == pile and is_last(other, pile_of)):
            pile += 1
        pile_of[number] = pile
    return tuple(tuple(number for number in pile_of if pile_of[number] == pile)
                 for pile in range(max(pile_of.values()) + 1))


def is_last(number, pile_of):
    """Whether the number came last to its pile."""
    return [other for other in pile_of if pile_of[other] == pile_of[number]][-1] == number


def falls(order):
    """All falls of the order."""
    for count in range(1, len(order) + 1):
        for part in combinations(order, count):
            if all(a > b for a, b in zip(part, part[1:])):
                yield part


class PermutationsTest(unittest.TestCase):

    def check(self, order):
        pairs = [(a, b) for a, b in combinations(range(len(order)), 2)
                 if [number for number in order if number in (a, b)] == [b, a]]
        self.assertEqual(inversion_graph(order=order), Graph(len(order), pairs))
        self.assertEqual(piles(order=order), piles_plainly(order))
        fall = longest_fall(order=order)
        assert_tuples(self, (piles(order), fall))
        self.assertEqual([number for number in order if number in fall], list(fall))
        self.assertEqual(sorted(fall, reverse=True), list(fall))
        # Each pile rises, so that a fall has one number of it at most: of as many no fall has more.
        self.assertEqual(len(fall), len(piles(order)))
        self.assertEqual(longest_fall(order), fall)
        self.assertTrue(is_clique_plainly(inversion_graph(order), fall))
        self.assertEqual(~inversion_graph(order), inversion_graph(order[::-1]))

    def test_all_orders_of_up_to_5(self):
        for size in range(1, 6):
            for order in permutations(range(size)):
                self.check(order)
                self.assertEqual(len(longest_fall(order)), max(len(fall) for fall in falls(order)))
                self.assertIs(is_perfect(inversion_graph(order)), True)

    def test_drawn_orders(self):
        for size in (7, 8, 12, 23, 24):
            for order in drawn_orders(size, 25):
                self.check(order)
                if size <= 8:
                    self.assertEqual(len(longest_fall(order)), max(len(fall) for fall in falls(order)))
                    self.assertIs(is_perfect(inversion_graph(order)), True)

    def test_rising_and_falling(self):
        for size in (1, 2, 24):
            rising = tuple(range(size))
            self.check(rising)
            self.check(rising[::-1])
            self.assertEqual(inversion_graph(rising), Graph.edgeless(size))
            self.assertEqual(inversion_graph(rising[::-1]), Graph.complete(size))
            self.assertEqual(piles(rising), (rising,))
            self.assertEqual(piles(rising[::-1]), tuple((number,) for number in rising[::-1]))
            self.assertEqual(longest_fall(rising[::-1]), rising[::-1])
            self.assertEqual(len(longest_fall(rising)), 1)

    def test_examples(self):
        self.assertEqual(inversion_graph((2, 0, 1)), Graph(3, ((0, 2), (1, 2))))
        self.assertEqual(piles((2, 0, 3, 1)), ((2, 3), (0, 1)))
        self.assertEqual(piles((3, 1, 0, 2, 4)), ((3, 4), (1, 2), (0,)))
        self.assertEqual(longest_fall((1, 3, 2, 0)), (3, 2, 0))
        self.assertEqual(longest_fall((0,)), (0,))

    def test_24_and_25_numbers(self):
        for call in ALL:
            call(tuple(range(24)))
            for size in (25, 26, 60):
                assert_keeps(self, InvalidOrder, "value", tuple(range(size)), call)

    def test_what_is_no_order(self):
        values = values_of_all_kinds() + [(), (1,), (0, 0), (1, 2), (0, 2), (0, 1, 1), (-1, 0), [0], [1, 0], "0", "10",
                                          (True,), (False,), (False, 1), (1, False), (0, True), (None,), (0, None),
                                          ("0",), ("0", "1"), ((0,),), ((0, 1),), (Share(0, 1),), Share(0, 1), {0: 0},
                                          nested((0,), 4), (0, (1,)), (0, [1]), {}, 1]
        for value in values:
            for call in ALL:
                assert_keeps(self, InvalidOrder, "value", value, call)

    def test_right_ones_with_one_place_changed(self):
        for order in ((0,), (2, 0, 1), tuple(drawn_orders(24, 1))[0]):
            for value in list(variants(order)) + list(exchanged(order, values_of_all_kinds())):
                if not is_order_plainly(value):
                    for call in ALL:
                        assert_keeps(self, InvalidOrder, "value", value, call)


if __name__ == "__main__":
    unittest.main()
