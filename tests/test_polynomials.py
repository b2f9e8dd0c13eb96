"""Promise [30]: counts of colorings and chromatic polynomials."""

import unittest
from itertools import product
from math import factorial

from everypart.colorings import chromatic_number
from everypart.errors import InvalidNumber, TooLarge
from everypart.graphs import Graph
from everypart.polynomials import chromatic_polynomial, coloring_count
from everypart.shares import Share
from tests.helpers import (all_graphs, assert_error, assert_keeps, assert_tuples, chordal_graphs, graphs_up_to, nested,
                           order_plainly, small_imperfect_graphs, some_graphs, values_of_all_kinds)

MANY = (0, 1, 2, 3, 4, 5, 7, 24, 999, 1000)


def count_plainly(graph, colors):
    """All tuples are gone through."""
    tuples = product(range(colors), repeat=graph.size)
    return len([1 for numbers in tuples if all(numbers[a] != numbers[b] for a, b in graph.edges)])


def count_by_edges(size, edges, colors):
    """Without an edge, less those with like numbers at its ends, in which both are one vertex."""
    if not edges:
        return colors ** size
    (one, other), rest = edges[0], edges[1:]
    merged = {tuple(sorted(one if vertex == other else vertex for vertex in edge)) for edge in rest}
    return count_by_edges(size, rest, colors) - count_by_edges(size - 1, sorted(merged), colors)


def value_at(numbers, k):
    return sum(number * k ** power for power, number in enumerate(numbers))


class PolynomialsTest(unittest.TestCase):

    def check(self, graph):
        numbers = chromatic_polynomial(graph=graph)
        assert_tuples(self, numbers)
        self.assertEqual(len(numbers), graph.size + 1)
        self.assertEqual((numbers[-1], numbers[-2], numbers[0]), (1, -len(graph.edges), 0))
        self.assertEqual(chromatic_polynomial(graph), numbers)
        for colors in MANY:
            count = coloring_count(graph=graph, colors=colors)
            self.assertIs(count.__class__, int)
            self.assertEqual(count, value_at(numbers, colors))
        self.assertGreater(coloring_count(graph, chromatic_number(graph)), 0)
        self.assertEqual(coloring_count(graph, chromatic_number(graph) - 1), 0)
        return numbers

    def test_small_graphs(self):
        for graph in list(graphs_up_to(4)) + list(all_graphs(5))[::4]:
            self.check(graph)
            for colors in (0, 1, 2, 3, 4) if graph.size < 5 else (2, 3):
                self.assertEqual(coloring_count(graph, colors), count_plainly(graph, colors))

    def test_7_and_8_vertices(self):
        for graph in list(some_graphs(7, 12)) + list(some_graphs(8, 6)) + small_imperfect_graphs():
            self.check(graph)
            for colors in (2, 3, 5, 1000) if len(graph.edges) < 15 else (4,):
                self.assertEqual(coloring_count(graph, colors), count_by_edges(graph.size, list(graph.edges), colors))

    def test_all_colors(self):
        graph = Graph.cycle(8)
        numbers = chromatic_polynomial(graph)
        for colors in range(1001):
            self.assertEqual(coloring_count(graph, colors), (colors - 1) ** 8 + (colors - 1))
            self.assertEqual(coloring_count(graph, colors), value_at(numbers, colors))

    def test_known_counts(self):
        for size in range(1, 9):
            for colors in MANY:
                self.assertEqual(coloring_count(Graph.edgeless(size), colors), colors ** size)
                falling = factorial(colors) // factorial(colors - size) if colors >= size else 0
                self.assertEqual(coloring_count(Graph.complete(size), colors), falling)
                self.assertEqual(coloring_count(Graph.path(size), colors), colors * (colors - 1) ** (size - 1))
            self.assertEqual(chromatic_polynomial(Graph.edgeless(size)), (0,) * size + (1,))
        self.assertEqual(chromatic_polynomial(Graph.path(1)), (0, 1))
        self.assertEqual(chromatic_polynomial(Graph.path(3)), (0, 1, -2, 1))
        self.assertEqual(chromatic_polynomial(Graph.cycle(5)), (0, 4, -10, 10, -5, 1))
        self.assertEqual(chromatic_polynomial(Graph.complete(4)), (0, -6, 11, -6, 1))

    def test_with_an_elimination_order(self):
        graphs = list(graphs_up_to(4)) + list(all_graphs(5))[::7] + list(some_graphs(7, 20))
        graphs += [graph.induced(tuple(range(start, start + 8))) for graph in chordal_graphs() for start in (0, 8, 16)]
        for graph in graphs:
            order = order_plainly(graph)
            if order is not None:
                for colors in MANY:
                    ways = 1
                    for place, vertex in enumerate(order):
                        ways *= colors - len([1 for other in order[place:] if (vertex, other) in graph])
                    self.assertEqual(coloring_count(graph, colors), ways)

    def test_numbers_of_colors(self):
        for size in (1, 8):
            self.assertEqual(coloring_count(Graph.edgeless(size), 1000), 1000 ** size)
            self.assertEqual(coloring_count(Graph.edgeless(size), 0), 0)
        values = [value for value in values_of_all_kinds() if value != 24]
        for value in values + [1001, 10 ** 30, -1, Share(1, 1), (1,), nested(1, 10), "1000", True, False]:
            for graph in (Graph.path(1), Graph.path(8), Graph.path(9), Graph.cycle(24)):
                assert_keeps(self, InvalidNumber, "value", value, lambda colors: coloring_count(graph, colors))

    def test_8_and_9_vertices(self):
        for graph in (Graph.path(9), Graph.complete(9), Graph.edgeless(24)):
            assert_error(self, TooLarge, lambda: chromatic_polynomial(graph), what="vertices")
            for colors in (0, 1, 1000):
                assert_error(self, TooLarge, lambda: coloring_count(graph, colors), what="vertices")


if __name__ == "__main__":
    unittest.main()
