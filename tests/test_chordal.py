"""Promise [18]: elimination orders and chordless cycles."""

import unittest
from itertools import permutations

from everypart.chordal import chordless_cycle, elimination_order, is_chordless_cycle, is_elimination_order
from everypart.colorings import chromatic_number, greedy_coloring
from everypart.errors import InvalidOrder, Undefined
from everypart.graphs import Graph
from everypart.perfect import is_perfect
from tests.helpers import (Dice, all_graphs, assert_error, assert_keeps, assert_tuples, chordal_graphs, exchanged,
                           graphs_in_pieces, graphs_up_to, is_simplicial_plainly, nested, order_plainly,
                           some_graphs, values_of_all_kinds, variants)


def is_order_plainly(graph, order):
    return all(is_simplicial_plainly(graph, vertex, order[place:]) for place, vertex in enumerate(order))


def is_cycle_plainly(graph, value):
    """Whether a value of any kind is a chordless cycle: its edges are just those along the ring."""
    if value.__class__ is not tuple or len(value) < 4:
        return False
    if any(vertex.__class__ is not int or not 0 <= vertex < graph.size for vertex in value):
        return False
    if len(set(value)) < len(value) or value[0] != min(value) or not value[1] < value[-1]:
        return False
    ring = sorted(tuple(sorted(pair)) for pair in zip(value, value[1:] + value[:1]))
    return ring == [edge for edge in graph.edges if set(edge) <= set(value)]


class OrderTest(unittest.TestCase):

    def check(self, graph):
        """Just one of both exists, and each is right."""
        order = order_plainly(graph)
        if order is None:
            assert_error(self, Undefined, lambda: elimination_order(graph), what="order")
            cycle = chordless_cycle(graph=graph)
            self.assertTrue(is_cycle_plainly(graph, cycle), (graph.edges, cycle))
            self.assertIs(is_chordless_cycle(graph, cycle), True)
            assert_tuples(self, cycle)
            self.assertEqual(chordless_cycle(graph), cycle)
        else:
            self.assertEqual(elimination_order(graph=graph), order)
            self.assertIs(is_elimination_order(graph, order), True)
            assert_tuples(self, elimination_order(graph))
            assert_error(self, Undefined, lambda: chordless_cycle(graph), what="cycle")

    def test_small_graphs(self):
        for graph in graphs_up_to(5):
            self.check(graph)
        for graph in list(some_graphs(6, 60)) + list(some_graphs(8, 60)):
            self.check(graph)

    def test_graphs_of_24_vertices(self):
        for graph in list(some_graphs(24, 12)) + graphs_in_pieces() + [Graph.path(24), ~Graph.path(24),
                                                                       Graph.circular(2, 11)]:
            self.check(graph)
        for graph in chordal_graphs():
            self.assertIsNotNone(order_plainly(graph))
            self.check(graph)

    def test_rings(self):
        for size in range(3, 25):
            self.check(Graph.cycle(size))
            self.check(~Graph.cycle(size))
            if size > 3:
                self.assertEqual(chordless_cycle(Graph.cycle(size)), tuple(range(size)))

    def test_examples(self):
        self.assertEqual(elimination_order(Graph.path(4)), (0, 1, 2, 3))
        self.assertEqual(elimination_order(Graph(4, ((0, 1), (0, 2), (0, 3)))), (1, 2, 0, 3))
        self.assertEqual(elimination_order(Graph.edgeless(3)), (0, 1, 2))
        self.assertEqual(elimination_order(Graph.path(1)), (0,))
        self.assertEqual(chordless_cycle(Graph(4, ((0, 1), (0, 2), (1, 3), (2, 3)))), (0, 1, 3, 2))

    def test_a_graph_with_an_order_is_perfect_and_colored_by_it(self):
        for graph in list(all_graphs(5))[::3] + list(some_graphs(8, 60)) + [Graph.complete(8), Graph.path(8)]:
            order = order_plainly(graph)
            if order is not None:
                self.assertIs(is_perfect(graph), True)
                colors = greedy_coloring(graph, elimination_order(graph)[::-1])
                self.assertEqual(max(colors) + 1, chromatic_number(graph))


class IsOrderTest(unittest.TestCase):

    def test_all_orders_of_small_graphs(self):
        for graph in list(graphs_up_to(4)) + list(all_graphs(5))[::51]:
            for order in permutations(range(graph.size)):
                self.assertIs(is_elimination_order(graph=graph, order=order), is_order_plainly(graph, order))

    def test_orders_of_24_vertices(self):
        for graph in list(chordal_graphs()):
            order = order_plainly(graph)
            self.assertIs(is_elimination_order(graph, order), True)
            for seed in range(3):
                mixed = tuple(Dice(seed).mixed(order))
                self.assertIs(is_elimination_order(graph, mixed), is_order_plainly(graph, mixed))
        self.assertIs(is_elimination_order(Graph.path(24), tuple(range(24))), True)
        self.assertIs(is_elimination_order(Graph.cycle(24), tuple(range(24))), False)

    def test_wrong_orders(self):
        graph = Graph.path(3)
        values = list(variants((0, 1, 2))) + list(exchanged((2, 0, 1), values_of_all_kinds()))
        wrong = [value for value in values if not is_right_order(value)]
        for value in wrong + [(), (0, 1), (0, 1, 2, 3), [0, 1, 2], (0, 1, 1), (1, 2, 3), (0, True, 2), (False, 1, 2),
                              "012", nested((0, 1, 2), 8), graph, None, (0, 1, "2"), (0, 1, (2,)), (-1, 0, 1),
                              (0, 1, 10 ** 30)]:
            assert_keeps(self, InvalidOrder, "value", value, lambda order: is_elimination_order(graph, order))


def is_right_order(value):
    return (value.__class__ is tuple and all(member.__class__ is int for member in value) and
            sorted(value) == [0, 1, 2])


class IsCycleTest(unittest.TestCase):

    def test_right_ones_with_one_place_changed(self):
        for graph, cycle in ((Graph.cycle(4), (0, 1, 2, 3)), (Graph.cycle(5), (0, 1, 2, 3, 4)),
                             (Graph.cycle(4) * Graph.edgeless(2), (0, 4, 2, 5)),
                             (Graph.cycle(7) + Graph.cycle(4), (7, 8, 9, 10)),
                             (~Graph.cycle(6), (0, 2, 5, 3)), (Graph.edgeless(2) * Graph.path(3), (0, 2, 1, 4))):
            self.assertTrue(is_cycle_plainly(graph, cycle))
            self.assertIs(is_chordless_cycle(graph=graph, value=cycle), True)
            for value in list(variants(cycle)) + list(exchanged(cycle, values_of_all_kinds() + list(graph))):
                self.assertIs(is_chordless_cycle(graph, value), is_cycle_plainly(graph, value), value)

    def test_all_tuples_of_four_and_five(self):
        for graph in (Graph.cycle(5), ~Graph.cycle(6), Graph.cycle(4) + Graph.path(1), list(some_graphs(6, 9))[4]):
            for count in range(0, 6):
                for value in permutations(range(graph.size), count):
                    self.assertIs(is_chordless_cycle(graph, value), is_cycle_plainly(graph, value), value)

    def test_begin_and_direction(self):
        ring = Graph.cycle(6)
        right = (0, 1, 2, 3, 4, 5)
        for step in range(6):
            turned = right[step:] + right[:step]
            self.assertIs(is_chordless_cycle(ring, turned), step == 0)
            self.assertIs(is_chordless_cycle(ring, turned[::-1]), False)
        self.assertIs(is_chordless_cycle(Graph.cycle(3), (0, 1, 2)), False)
        self.assertIs(is_chordless_cycle(Graph.cycle(24), tuple(range(24))), True)
        self.assertIs(is_chordless_cycle(Graph.path(24), tuple(range(24))), False)
        self.assertIs(is_chordless_cycle(ring, (0, 1, 0, 1)), False)
        self.assertIs(is_chordless_cycle(Graph.cycle(4), (0, 1, 2, 3, 0)), False)

    def test_other_kinds(self):
        for graph in (Graph.path(1), Graph.cycle(4), Graph.cycle(24)):
            for value in values_of_all_kinds() + [(), 0, (0, 1, 2), [0, 1, 2, 3], (False, True, 2, 3), "0123",
                                                  (0, 1, 2, 24),
                                                  (0, 1, 2, -1), (0, 1, 2, "3"), ((0, 1), (1, 2), (2, 3), (0, 3)),
                                                  graph, (0, 1, 2, None), (0, 1, 2, graph), (0, 1, 2, [3]),
                                                  nested((0, 1, 2, 3), 8)]:
                self.assertIs(is_chordless_cycle(graph, value), False, value)


if __name__ == "__main__":
    unittest.main()
