"""Promise [9]: colorings."""

import unittest
from itertools import permutations, product

from everypart.colorings import chromatic_number, greedy_coloring, is_coloring, normal_form, optimal_coloring
from everypart.errors import InvalidColoring, InvalidOrder, TooLarge
from everypart.graphs import Graph
from tests.helpers import (all_graphs, assert_error, assert_keeps, assert_tuples, fewest_colors, graphs_up_to,
                           small_imperfect_graphs, some_graphs, values_of_all_kinds)


def graphs():
    return list(graphs_up_to(4)) + list(all_graphs(5))[::7] + list(some_graphs(8, 12)) + small_imperfect_graphs()


def fits(graph, coloring):
    return all(coloring[a] != coloring[b] for a, b in graph.edges)


def normal_plainly(coloring):
    """Told otherwise than in the program: each number exchanged for the place of its first coming among such."""
    firsts = [number for place, number in enumerate(coloring) if number not in coloring[:place]]
    return tuple(firsts.index(number) for number in coloring)


class IsColoringTest(unittest.TestCase):

    def test_small_graphs(self):
        for graph in graphs_up_to(4):
            for coloring in product((0, 1, 23), repeat=graph.size):
                self.assertIs(is_coloring(graph, coloring), fits(graph, coloring))

    def test_24_vertices(self):
        graph = Graph.complete(24)
        self.assertIs(is_coloring(graph, tuple(range(24))), True)
        self.assertIs(is_coloring(graph, tuple(range(23, -1, -1))), True)
        self.assertIs(is_coloring(graph, tuple(range(23)) + (0,)), False)
        self.assertIs(is_coloring(graph=Graph.edgeless(24), coloring=(23,) * 24), True)
        self.assertIs(is_coloring(Graph.cycle(24), (0, 1) * 12), True)
        self.assertIs(is_coloring(Graph.cycle(23), (0, 1) * 11 + (0,)), False)

    def test_numbers_23_and_24(self):
        graph = Graph.path(2)
        self.assertIs(is_coloring(graph, (23, 0)), True)
        for value in ((24, 0), (0, 24), (0, -1), (10 ** 30, 0)):
            assert_keeps(self, InvalidColoring, "value", value, lambda coloring: is_coloring(graph, coloring))

    def test_wrong_values(self):
        for value in values_of_all_kinds() + [(), (0,), (0, 1, 0), [0, 1], (0, True), (False, 1), (0, None), (0, "1"),
                                              ((0,), (1,)), (0, (1,)), "01", 0, Graph.path(2)]:
            assert_keeps(self, InvalidColoring, "value", value, lambda coloring: is_coloring(Graph.path(2), coloring))

    def test_one_member_too_many_or_too_few(self):
        for size in (1, 5, 24):
            for count in (size - 1, size + 1):
                assert_keeps(self, InvalidColoring, "value", (0,) * count,
                             lambda coloring: is_coloring(Graph.edgeless(size), coloring))


class NormalFormTest(unittest.TestCase):

    def test_exchanged_numbers(self):
        self.assertEqual(normal_form((5, 3, 5, 0, 3, 23)), (0, 1, 0, 2, 1, 3))
        self.assertEqual(normal_form(coloring=(1, 0)), (0, 1))
        for size in range(5):
            for coloring in product((0, 1, 2, 23), repeat=size):
                self.assertEqual(normal_form(coloring), normal_plainly(coloring))
                assert_tuples(self, normal_form(coloring))

    def test_lengths(self):
        self.assertEqual(normal_form(()), ())
        self.assertEqual(normal_form((23,)), (0,))
        self.assertEqual(normal_form(tuple(range(23, -1, -1))), tuple(range(24)))
        self.assertEqual(normal_form((7,) * 24), (0,) * 24)
        for value in ((0,) * 25, tuple(range(24)) + (0,)):
            assert_keeps(self, InvalidColoring, "value", value, normal_form)

    def test_wrong_values(self):
        for value in values_of_all_kinds() + [[], [0, 1], (24,), (0, 24), (-1,), (True,), (0, False), (None,), ("0",),
                                              ((0,),), (0, (1,)), 0, "", "01", None, Graph.path(2)]:
            assert_keeps(self, InvalidColoring, "value", value, normal_form)


class OptimalTest(unittest.TestCase):

    def test_chromatic_number(self):
        for graph in graphs():
            self.assertEqual(chromatic_number(graph), fewest_colors(graph, tuple(range(graph.size))))
            self.assertIs(chromatic_number(graph=graph).__class__, int)

    def test_some_chromatic_numbers(self):
        for graph, number in ((Graph.complete(8), 8), (Graph.edgeless(8), 1), (Graph.cycle(8), 2), (Graph.cycle(7), 3),
                              (~Graph.cycle(7), 4), (Graph.path(1), 1), (Graph.cycle(5) * Graph.cycle(3), 6)):
            self.assertEqual(chromatic_number(graph), number)

    def test_optimal_coloring(self):
        for graph in graphs():
            coloring = optimal_coloring(graph)
            assert_tuples(self, coloring)
            self.assertEqual(len(coloring), graph.size)
            self.assertTrue(fits(graph, coloring))
            self.assertEqual(len(set(coloring)), fewest_colors(graph, tuple(range(graph.size))))
            self.assertEqual(coloring, normal_plainly(coloring))
            self.assertEqual(coloring, optimal_coloring(graph=Graph(graph.size, list(graph.edges))))

    def test_9_vertices_and_more(self):
        for call in (chromatic_number, optimal_coloring):
            for size in (9, 24):
                assert_error(self, TooLarge, lambda: call(Graph.edgeless(size)), what="vertices")


class GreedyTest(unittest.TestCase):

    def greedy_plainly(self, graph, order):
        colors = [None] * graph.size
        for vertex in order:
            near = {colors[a + b - vertex] for a, b in graph.edges if vertex in (a, b)}
            colors[vertex] = min(set(range(25)) - near)
        return tuple(colors)

    def test_all_orders_of_small_graphs(self):
        for graph in list(graphs_up_to(4)) + list(some_graphs(5, 8)):
            counts = []
            for order in permutations(range(graph.size)):
                coloring = greedy_coloring(graph, order)
                self.assertEqual(coloring, self.greedy_plainly(graph, order))
                assert_tuples(self, coloring)
                self.assertLessEqual(len(set(coloring)), 1 + max(graph.degrees))
                counts.append(len(set(coloring)))
            self.assertEqual(min(counts), chromatic_number(graph))

    def test_order_matters(self):
        graph = Graph(4, ((0, 1), (0, 3), (2, 3)))
        self.assertEqual(greedy_coloring(graph, (0, 1, 2, 3)), (0, 1, 0, 1))
        self.assertEqual(greedy_coloring(graph=graph, order=(1, 2, 0, 3)), (1, 0, 0, 2))

    def test_24_vertices(self):
        up, down = tuple(range(24)), tuple(range(23, -1, -1))
        self.assertEqual(greedy_coloring(Graph.complete(24), up), up)
        self.assertEqual(greedy_coloring(Graph.complete(24), down), down)
        self.assertEqual(greedy_coloring(Graph.edgeless(24), down), (0,) * 24)
        self.assertEqual(greedy_coloring(Graph.cycle(24), up), (0, 1) * 12)
        for graph in some_graphs(24, 4):
            self.assertEqual(greedy_coloring(graph, down), self.greedy_plainly(graph, down))

    def test_wrong_orders(self):
        graph = Graph.path(3)
        for value in values_of_all_kinds() + [(), (0,), (0, 1), (0, 1, 2, 3), (0, 1, 1), (0, 1, 2, 2), (0, 1, 3),
                                              (-1, 0, 1), (1, 2, 3), [0, 1, 2], (0, True, 2), (False, 1, 2), (0, 1, None),
                                              (0, 1, "2"), (0, 1, (2,)), ((0, 1, 2),), "012", 3, Graph.path(3)]:
            assert_keeps(self, InvalidOrder, "value", value, lambda order: greedy_coloring(graph, order))
        assert_keeps(self, InvalidOrder, "value", (True,), lambda order: greedy_coloring(Graph.path(1), order))
        assert_keeps(self, InvalidOrder, "value", (False,), lambda order: greedy_coloring(Graph.path(1), order))


if __name__ == "__main__":
    unittest.main()
