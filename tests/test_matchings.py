"""Promise [26]: matchings and vertex covers of graphs with sides."""

import unittest

from everypart.bipartite import sides
from everypart.cliques import independence_number
from everypart.errors import Undefined
from everypart.graphs import Graph
from everypart.matchings import maximum_matching, vertex_cover
from tests.helpers import (Dice, assert_error, assert_tuples, graphs_up_to, is_plain_subset, pieces_plainly,
                           renumbered, some_graphs)


def has_sides(graph):
    """Whether no edge is within a side, the sides told by how far vertices are from the first one of their piece."""
    bits = {}
    for piece in pieces_plainly(graph, graph):
        bits[piece[0]] = 0
        for _ in piece:
            for a, b in graph.edges:
                if a in bits and b not in bits:
                    bits[b] = 1 - bits[a]
                if b in bits and a not in bits:
                    bits[a] = 1 - bits[b]
    return all(bits[a] != bits[b] for a, b in graph.edges)


def most_edges(edges):
    """The greatest number of edges without a common end, by plain search."""
    if not edges:
        return 0
    (one, other), rest = edges[0], edges[1:]
    return max(most_edges(rest), 1 + most_edges([(a, b) for a, b in rest if not {a, b} & {one, other}]))


def graphs_between(left, right, seeds):
    """Graphs with sides of these sizes, with few edges or many, renumbered."""
    for seed in range(seeds):
        dice = Dice(seed)
        density = 5 + seed * 80 // seeds
        edges = [(a, left + b) for a in range(left) for b in range(right) if dice.below(100) < density]
        yield renumbered(Graph(left + right, edges), tuple(dice.mixed(range(left + right))))


class MatchingTest(unittest.TestCase):

    def check(self, graph):
        """The answers are right ones of one size: so no matching has more edges, and no cover fewer vertices."""
        edges = maximum_matching(graph=graph)
        cover = vertex_cover(graph=graph)
        assert_tuples(self, (edges, cover))
        self.assertEqual(list(edges), sorted(set(edges)))
        self.assertTrue(all(edge in graph.edges for edge in edges))
        ends = [vertex for edge in edges for vertex in edge]
        self.assertEqual(len(ends), len(set(ends)))
        self.assertTrue(is_plain_subset(cover, graph.size))
        self.assertTrue(all(a in cover or b in cover for a, b in graph.edges))
        self.assertEqual(len(edges), len(cover))
        self.assertEqual((maximum_matching(graph), vertex_cover(graph)), (edges, cover))
        return len(edges)

    def test_small_graphs(self):
        for graph in graphs_up_to(5):
            if has_sides(graph):
                self.assertEqual(self.check(graph), most_edges(list(graph.edges)))
                self.assertEqual(independence_number(graph), graph.size - self.check(graph))
            else:
                self.check_without_sides(graph)

    def check_without_sides(self, graph):
        assert_error(self, Undefined, lambda: maximum_matching(graph), what="sides")
        assert_error(self, Undefined, lambda: vertex_cover(graph), what="sides")

    def test_graphs_of_7_and_8(self):
        for graph in list(some_graphs(7, 40)) + list(some_graphs(8, 40)) + list(graphs_between(4, 4, 30)):
            if has_sides(graph):
                self.assertEqual(independence_number(graph), graph.size - self.check(graph))
            else:
                self.check_without_sides(graph)

    def test_larger_sides(self):
        for left, right in ((10, 10), (9, 7), (12, 12), (1, 23), (6, 14), (14, 10)):
            for graph in graphs_between(left, right, 12):
                self.check(graph)

    def test_ways_of_turns(self):
        # A pair taken first that must go again, over many steps.
        path = Graph.path(24)
        for seed in range(12):
            self.assertEqual(self.check(renumbered(path, tuple(Dice(seed).mixed(range(24))))), 12)
            ring = renumbered(Graph.cycle(24), tuple(Dice(seed).mixed(range(24))))
            self.assertEqual(self.check(ring), 12)
        self.assertEqual(self.check(Graph(24, sorted((a, 12 + b) for a in range(12) for b in range(a + 1)))), 12)
        self.assertEqual(self.check(Graph(24, sorted((a, 12 + b) for a in range(12) for b in range(a, 12)))), 12)

    def test_examples(self):
        self.assertEqual(maximum_matching(Graph.path(4)), ((0, 1), (2, 3)))
        self.assertEqual(vertex_cover(Graph.path(3)), (1,))
        self.assertEqual(vertex_cover(Graph(5, ((0, 4), (1, 4), (2, 4), (3, 4)))), (4,))
        self.assertEqual(self.check(Graph.edgeless(12) * Graph.edgeless(12)), 12)
        self.assertEqual(self.check(Graph.edgeless(3) * Graph.edgeless(12)), 3)
        self.assertEqual(vertex_cover(Graph.edgeless(3) * Graph.edgeless(12)), (0, 1, 2))
        self.assertEqual(maximum_matching(Graph.path(3) + Graph.path(1) + Graph.path(2))[1:], ((4, 5),))

    def test_graphs_without_edges(self):
        for size in (1, 2, 9, 24):
            self.assertEqual(maximum_matching(Graph.edgeless(size)), ())
            self.assertEqual(vertex_cover(Graph.edgeless(size)), ())

    def test_graphs_without_sides(self):
        for graph in (Graph.cycle(3), Graph.cycle(5), Graph.complete(24), Graph.cycle(23), ~Graph.cycle(8),
                      Graph.path(20) + Graph.cycle(3), Graph.cycle(7) + Graph.edgeless(9)):
            self.check_without_sides(graph)

    def test_sides_are_those_of_bipartite(self):
        for graph in graphs_between(5, 6, 20):
            bits = sides(graph)
            self.assertTrue(all(bits[a] != bits[b] for a, b in maximum_matching(graph)))


if __name__ == "__main__":
    unittest.main()
