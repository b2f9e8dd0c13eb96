"""Promise [22]: colorings of the edges between two sides, and line graphs."""

import unittest

from everypart.cliques import clique_number
from everypart.edgecolors import edge_coloring, line_graph
from everypart.errors import InvalidGraph, InvalidNumber, TooLarge, Undefined
from everypart.graphs import Graph
from everypart.perfect import is_perfect
from tests.helpers import (Dice, assert_error, assert_keeps, assert_tuples, exchanged, nested, values_of_all_kinds,
                           variants)

BOTH = (edge_coloring, line_graph)


def load_of(edges):
    counts = [[edge[side] for edge in edges].count(end) for side in (0, 1) for end in range(12)]
    return max(counts)


def random_edges(dice, left, right, count):
    return tuple((dice.below(left), dice.below(right)) for _ in range(count))


def cases():
    """Sides and edges: few ends or many, duplicates or none, up to 40 edges."""
    for seed in range(150):
        dice = Dice(seed)
        left, right = 1 + dice.below(12), 1 + dice.below(12)
        yield left, right, random_edges(dice, left, right, dice.below(41))
    for left in (1, 2, 3, 12):
        for right in (1, 2, 12):
            every = [(a, b) for a in range(left) for b in range(right)]
            yield left, right, tuple(every[:40])
            yield left, right, tuple((every * 40)[:40])
            yield left, right, tuple(Dice(left + right).mixed((every * 40)[:40]))
    for size in (3, 5, 6, 10):
        # Each end has the same load, so that every color stands at every end.
        spread = [(a, (a + step * step) % size) for step in range(40 // size) for a in range(size)]
        for seed in range(8):
            yield size, size, tuple(Dice(seed).mixed(spread))


class EdgeColoringTest(unittest.TestCase):

    def check(self, left, right, edges):
        colors = edge_coloring(left=left, right=right, edges=edges)
        assert_tuples(self, colors)
        self.assertEqual(len(colors), len(edges))
        self.assertTrue(all(0 <= color < load_of(edges) for color in colors), (left, right, edges, colors))
        for place, (a, b) in enumerate(edges):
            for other in range(place):
                if a == edges[other][0] or b == edges[other][1]:
                    self.assertNotEqual(colors[place], colors[other])
        self.assertEqual(edge_coloring(left, right, edges), colors)
        self.assertEqual(edge_coloring(left, right, list(edges)), colors)

    def test_many(self):
        for left, right, edges in cases():
            self.check(left, right, edges)

    def test_all_small_ones(self):
        every = [(a, b) for a in range(3) for b in range(3)]
        for bits in range(2 ** 9):
            chosen = tuple(edge for place, edge in enumerate(every) if bits >> place & 1)
            self.check(3, 3, chosen)
            self.check(3, 3, chosen[::-1])

    def test_examples(self):
        self.assertEqual(edge_coloring(1, 1, ()), ())
        self.assertEqual(edge_coloring(12, 12, []), ())
        self.assertEqual(edge_coloring(1, 1, ((0, 0),)), (0,))
        self.assertEqual(sorted(edge_coloring(1, 1, ((0, 0),) * 40)), list(range(40)))
        self.assertEqual(edge_coloring(12, 12, [(place, place) for place in range(12)]), (0,) * 12)
        self.assertEqual(sorted(edge_coloring(1, 12, [(0, place) for place in range(12)])), list(range(12)))

    def test_the_sequence_stays(self):
        edges = [(0, 1), (1, 0), (1, 1), (0, 0), (1, 1)]
        self.check(2, 2, edges)
        edge_coloring(2, 2, edges), line_graph(2, 2, edges)
        self.assertEqual(edges, [(0, 1), (1, 0), (1, 1), (0, 0), (1, 1)])


class LineGraphTest(unittest.TestCase):

    def test_many(self):
        for left, right, edges in cases():
            if not edges:
                assert_error(self, Undefined, lambda: line_graph(left, right, edges), what="graph")
            elif len(edges) > 24:
                assert_error(self, TooLarge, lambda: line_graph(left, right, edges), what="vertices")
            else:
                known = [(i, j) for i in range(len(edges)) for j in range(i + 1, len(edges))
                         if edges[i][0] == edges[j][0] or edges[i][1] == edges[j][1]]
                self.assertEqual(line_graph(left=left, right=right, edges=edges), Graph(len(edges), known))
                self.assertEqual(line_graph(left, right, list(edges)), Graph(len(edges), known))

    def test_line_graphs_are_perfect_with_the_load_as_clique_number(self):
        for left, right, edges in cases():
            for few in (edges[:8], edges[-8:]):
                if few:
                    graph = line_graph(left, right, few)
                    self.assertIs(is_perfect(graph), True)
                    self.assertEqual(clique_number(graph), load_of(few))

    def test_examples(self):
        self.assertEqual(line_graph(2, 2, ((0, 0), (0, 1), (1, 1))), Graph.path(3))
        self.assertEqual(line_graph(2, 2, ((0, 0), (1, 1), (0, 0))), Graph(3, ((0, 2),)))
        self.assertEqual(line_graph(2, 2, ((0, 0), (0, 1), (1, 1), (1, 0))), Graph.cycle(4))

    def test_24_and_25_edges(self):
        self.assertEqual(line_graph(1, 1, ((0, 0),) * 24), Graph.complete(24))
        for count in (25, 40):
            assert_error(self, TooLarge, lambda: line_graph(1, 1, ((0, 0),) * count), what="vertices")
            edges = ((0, 0),) * (count - 1) + ((0, 1),)
            assert_error(self, InvalidGraph, lambda: line_graph(1, 1, edges), part="edges", place=count - 1)
        for empty in ((), []):
            assert_error(self, Undefined, lambda: line_graph(1, 12, empty), what="graph")


class ErrorsTest(unittest.TestCase):

    def test_sides_from_1_to_12(self):
        for call in BOTH:
            for number in (1, 2, 11, 12):
                call(number, 13 - number, ((0, 0),))
                call(number, 12, ((number - 1, 11),))
                call(12, number, ((11, number - 1),))
            for value in [0, 13, -1, 24, 10 ** 30, True, False, None, "1", (1,), [1], (), Graph.path(1), nested(1, 10)]:
                assert_keeps(self, InvalidNumber, "value", value, lambda left: call(left, 1, ((0, 0),)))
                assert_keeps(self, InvalidNumber, "value", value, lambda right: call(1, right, ((0, 0),)))
                assert_keeps(self, InvalidNumber, "value", value, lambda left: call(left, 13, None))
                assert_keeps(self, InvalidNumber, "value", value, lambda right: call(12, right, None))

    def test_edges_that_are_no_sequence(self):
        for call in BOTH:
            for value in (None, 0, True, "", "ab", Graph.path(2), Graph.path(1)):
                assert_error(self, InvalidGraph, lambda: call(2, 2, value), part="edges", place=0)

    def test_the_first_wrong_edge(self):
        values = values_of_all_kinds() + list(variants((0, 1))) + list(exchanged((1, 2), (3, None, True)))
        wrong = [edge for edge in values if not is_edge_plainly(edge)]
        for call in BOTH:
            for edge in wrong + [(2, 0), (0, 3), (1, 3), (2, 2), [0, 1], (0, 1, 0), (0,), (), (0, 10 ** 30)]:
                for place in (0, 1, 3):
                    edges = [(0, 0), (1, 2), (0, 0), (1, 1)]
                    edges[place] = edge
                    assert_error(self, InvalidGraph, lambda: call(2, 3, edges), part="edges", place=place)
                    edges.append(None)
                    assert_error(self, InvalidGraph, lambda: call(2, 3, tuple(edges)), part="edges", place=place)

    def test_each_member_has_its_own_side(self):
        for call in BOTH:
            call(2, 3, ((1, 2),))
            assert_error(self, InvalidGraph, lambda: call(3, 2, ((1, 2),)), part="edges", place=0)
            assert_error(self, InvalidGraph, lambda: call(2, 3, ((0, 0), (2, 1))), part="edges", place=1)


def is_edge_plainly(edge):
    if edge.__class__ is not tuple or len(edge) != 2 or any(end.__class__ is not int for end in edge):
        return False
    return 0 <= edge[0] < 2 and 0 <= edge[1] < 3


if __name__ == "__main__":
    unittest.main()
