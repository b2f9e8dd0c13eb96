"""Promise [19]: sides and odd cycles."""

import unittest
from itertools import product

from everypart.bipartite import odd_cycle, sides
from everypart.errors import Undefined
from everypart.graphs import Graph
from everypart.perfect import is_perfect
from tests.helpers import (Dice, all_graphs, assert_error, assert_tuples, graphs_in_pieces, graphs_up_to, joined,
                           pieces_plainly, renumbered, some_graphs)


def sides_by_search(graph):
    """The sides found by trying all bits, or None."""
    firsts = [piece[0] for piece in pieces_plainly(graph, graph)]
    for bits in product((0, 1), repeat=graph.size):
        if all(bits[a] != bits[b] for a, b in graph.edges) and all(bits[vertex] == 0 for vertex in firsts):
            return bits
    return None


def two_sided_graphs():
    """Graphs of 24 vertices with sides, renumbered; some hang together, some do not."""
    for seed in range(12):
        dice = Dice(seed)
        edges = sorted({(dice.below(12), 12 + dice.below(12)) for _ in range(8 + 5 * seed)})
        yield renumbered(Graph(24, edges), tuple(dice.mixed(range(24))))


class BipartiteTest(unittest.TestCase):

    def check_sides(self, graph):
        bits = sides(graph=graph)
        self.assertEqual(len(bits), graph.size)
        assert_tuples(self, bits)
        self.assertTrue(set(bits) <= {0, 1})
        self.assertTrue(all(bits[a] != bits[b] for a, b in graph.edges))
        for piece in pieces_plainly(graph, graph):
            self.assertEqual(bits[piece[0]], 0)
        self.assertEqual(sides(graph), bits)
        assert_error(self, Undefined, lambda: odd_cycle(graph), what="cycle")

    def check_cycle(self, graph):
        cycle = odd_cycle(graph=graph)
        assert_tuples(self, cycle)
        self.assertGreaterEqual(len(cycle), 3)
        self.assertEqual(len(cycle) % 2, 1)
        self.assertEqual(len(set(cycle)), len(cycle))
        self.assertTrue(all(joined(graph, a, b) for a, b in zip(cycle, cycle[1:] + cycle[:1])), (graph.edges, cycle))
        self.assertEqual(odd_cycle(graph), cycle)
        assert_error(self, Undefined, lambda: sides(graph), what="sides")

    def check(self, graph):
        """Just one of both exists."""
        known = sides_by_search(graph)
        if known is None:
            self.check_cycle(graph)
        else:
            self.assertEqual(sides(graph), known)
            self.check_sides(graph)

    def test_small_graphs(self):
        for graph in graphs_up_to(5):
            self.check(graph)
        for graph in list(some_graphs(7, 60)) + list(some_graphs(8, 60)):
            self.check(graph)

    def test_rings(self):
        for size in range(3, 25):
            ring = Graph.cycle(size)
            for graph in (ring, renumbered(ring, tuple(Dice(size).mixed(range(size))))):
                if size % 2:
                    self.check_cycle(graph)
                    self.assertEqual(len(odd_cycle(graph)), size)
                else:
                    self.check_sides(graph)

    def test_24_vertices(self):
        for graph in two_sided_graphs():
            self.check_sides(graph)
            other = [pair for pair in (~graph).edges if graph.degrees[pair[0]] and graph.degrees[pair[1]]]
            for extra in other[::31]:
                changed = Graph(24, sorted(graph.edges + (extra,)))
                bits = sides(graph)
                whole = [piece for piece in pieces_plainly(graph, graph) if extra[0] in piece][0]
                if extra[1] in whole and bits[extra[0]] == bits[extra[1]]:
                    self.check_cycle(changed)
                else:
                    self.check_sides(changed)
        for graph in [Graph.complete(24), ~Graph.cycle(24), Graph.cycle(3) + Graph.path(21),
                      Graph.path(21) + Graph.cycle(3), Graph.edgeless(12) + Graph.cycle(11)] + graphs_in_pieces()[:2]:
            self.check_cycle(graph)
        for graph in (Graph.path(24), Graph.edgeless(24), Graph.edgeless(12) * Graph.edgeless(12), Graph.path(1)):
            self.check_sides(graph)

    def test_examples(self):
        self.assertEqual(sides(Graph.path(4)), (0, 1, 0, 1))
        self.assertEqual(sides(Graph(5, ((0, 4), (1, 2), (2, 3)))), (0, 0, 1, 0, 1))
        self.assertEqual(sides(Graph(4, ((0, 3), (1, 3), (2, 3)))), (0, 0, 0, 1))
        self.assertEqual(sides(Graph.edgeless(3)), (0, 0, 0))
        self.assertEqual(sorted(odd_cycle(Graph.cycle(4) + Graph.cycle(3))), [4, 5, 6])

    def test_a_graph_with_sides_is_perfect(self):
        for graph in list(all_graphs(5))[::2] + list(some_graphs(8, 40)):
            if sides_by_search(graph) is not None:
                self.assertIs(is_perfect(graph), True)


if __name__ == "__main__":
    unittest.main()
