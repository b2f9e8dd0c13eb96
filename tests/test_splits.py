"""Promise [21]: split graphs and threshold graphs."""

import unittest
from itertools import combinations, permutations

from everypart.cographs import cotree
from everypart.errors import TooLarge, Undefined
from everypart.graphs import Graph
from everypart.perfect import is_perfect
from everypart.splits import split_obstacle, split_partition, threshold_obstacle, threshold_order
from tests.helpers import (Dice, all_graphs, assert_error, assert_tuples, graphs_in_pieces, graphs_up_to,
                           is_clique_plainly, is_independent_plainly, joined, renumbered, some_graphs)

TWO_EDGES = Graph(4, ((0, 1), (2, 3)))
SPLIT_SHAPES = (TWO_EDGES, Graph.cycle(4), Graph.cycle(5))
THRESHOLD_SHAPES = (TWO_EDGES, Graph.path(4), Graph.cycle(4))


def looks_like(graph, part, shapes):
    """Whether the induced graph is one of the shapes, but for its names: it has their edges in some order."""
    inner = graph.induced(part)
    return any(shape.size == inner.size and SHAPES[shape.edges].count(inner.edges) for shape in shapes)


def all_renumbered(shape):
    """The edges of the shape under all names."""
    return list({renumbered(shape, names).edges for names in permutations(range(shape.size))})


SHAPES = {shape.edges: all_renumbered(shape) for shape in SPLIT_SHAPES + THRESHOLD_SHAPES}


def first_obstacle(graph, lengths, shapes):
    for count in lengths:
        for part in combinations(graph, count):
            if looks_like(graph, part, shapes):
                return part
    return None


def partition_plainly(graph):
    for count in range(graph.size, 0, -1):
        for part in combinations(graph, count):
            rest = tuple(vertex for vertex in graph if vertex not in part)
            if is_clique_plainly(graph, part) and is_independent_plainly(graph, rest):
                return part, rest
    return None


def order_plainly(graph):
    left, order = list(graph), ()
    while left:
        counts = {vertex: sum(joined(graph, vertex, other) for other in left) for vertex in left}
        lonely = [vertex for vertex in left if counts[vertex] == 0]
        full = [vertex for vertex in left if counts[vertex] == len(left) - 1]
        if not lonely and not full:
            return None
        pair = (lonely[0], 0) if lonely else (full[0], 1)
        order = (pair,) + order
        left.remove(pair[0])
    return order


def threshold_graphs():
    """Threshold graphs of up to 24 vertices, renumbered."""
    for seed in range(20):
        dice = Dice(seed)
        size = 24 if seed % 2 else 2 + dice.below(22)
        edges = [(other, vertex) for vertex in range(1, size) if dice.below(2) for other in range(vertex)]
        yield renumbered(Graph(size, sorted(edges)), tuple(dice.mixed(range(size))))


def split_graphs(size):
    for seed in range(20):
        dice = Dice(seed)
        count = dice.below(size + 1)
        edges = [(a, b) for b in range(size) for a in range(b) if b < count or (a < count and dice.below(2))]
        yield renumbered(Graph(size, sorted(edges)), tuple(dice.mixed(range(size))))


class SplitTest(unittest.TestCase):

    def check(self, graph):
        """Just one of both is defined."""
        known = partition_plainly(graph)
        if known is None:
            part = split_obstacle(graph=graph)
            self.assertEqual(part, first_obstacle(graph, (4, 5), SPLIT_SHAPES))
            assert_tuples(self, part)
            self.assertEqual(split_obstacle(graph), part)
            assert_error(self, Undefined, lambda: split_partition(graph), what="split")
        else:
            self.assertEqual(split_partition(graph=graph), known)
            assert_tuples(self, split_partition(graph))
            self.assertIs(is_perfect(graph), True)
            assert_error(self, Undefined, lambda: split_obstacle(graph), what="obstacle")

    def test_small_graphs(self):
        for graph in list(graphs_up_to(4)) + list(all_graphs(5)):
            self.check(graph)
        for graph in list(some_graphs(6, 60)) + list(some_graphs(8, 40)) + list(split_graphs(8)):
            self.check(graph)

    def test_examples(self):
        self.assertEqual(split_partition(Graph.path(1)), ((0,), ()))
        self.assertEqual(split_partition(Graph.edgeless(3)), ((0,), (1, 2)))
        self.assertEqual(split_partition(Graph.complete(8)), (tuple(range(8)), ()))
        self.assertEqual(split_partition(Graph.path(3)), ((0, 1), (2,)))
        self.assertEqual(split_partition(Graph.path(4)), ((1, 2), (0, 3)))
        self.assertEqual(split_partition(Graph(4, ((1, 3), (2, 3)))), ((1, 3), (0, 2)))
        for size, part in ((4, (0, 1, 2, 3)), (5, (0, 1, 2, 3, 4)), (6, (0, 1, 3, 4)), (24, (0, 1, 3, 4))):
            self.assertEqual(split_obstacle(Graph.cycle(size)), part)
        # The obstacle of five comes behind all of four.
        self.assertEqual(split_obstacle(Graph.cycle(5) + Graph.path(2)), (0, 1, 5, 6))
        self.assertEqual(split_obstacle(Graph.edgeless(19) + Graph.cycle(5)), (19, 20, 21, 22, 23))
        self.assertEqual(split_obstacle(Graph.complete(19) * Graph.cycle(5)), (19, 20, 21, 22, 23))

    def test_8_and_9_vertices(self):
        split_partition(Graph.complete(8))
        for graph in (Graph.complete(9), Graph.edgeless(9), Graph.cycle(9), Graph.cycle(24), Graph.edgeless(24)):
            assert_error(self, TooLarge, lambda: split_partition(graph), what="vertices")
        assert_error(self, Undefined, lambda: split_partition(Graph.cycle(8)), what="split")
        self.assertEqual(split_obstacle(Graph.cycle(9)), (0, 1, 3, 4))

    def test_obstacles_in_graphs_of_24_vertices(self):
        for graph in list(split_graphs(24))[::4] + list(threshold_graphs())[:4]:
            assert_error(self, Undefined, lambda: split_obstacle(graph), what="obstacle")
        for graph in list(some_graphs(24, 6)) + graphs_in_pieces()[:4]:
            self.assertEqual(split_obstacle(graph), first_obstacle(graph, (4, 5), SPLIT_SHAPES))
        for seed, graph in enumerate(list(split_graphs(19))[::6]):
            names = tuple(Dice(seed).mixed(range(24)))
            late = renumbered(graph + Graph.path(5), names)
            self.assertEqual(split_obstacle(late), first_obstacle(late, (4, 5), SPLIT_SHAPES))


class ThresholdTest(unittest.TestCase):

    def check(self, graph):
        """Just one of both is defined."""
        known = order_plainly(graph)
        if known is None:
            part = threshold_obstacle(graph=graph)
            self.assertEqual(part, first_obstacle(graph, (4,), THRESHOLD_SHAPES))
            assert_tuples(self, part)
            self.assertEqual(threshold_obstacle(graph), part)
            assert_error(self, Undefined, lambda: threshold_order(graph), what="order")
        else:
            self.assertEqual(threshold_order(graph=graph), known)
            assert_tuples(self, threshold_order(graph))
            self.assertEqual(known[0][1], 0)
            # The later of two vertices tells by its bit whether they are joined.
            built = [tuple(sorted((ahead, vertex))) for place, (vertex, bit) in enumerate(known) if bit
                     for ahead, _ in known[:place]]
            self.assertEqual(graph.edges, tuple(sorted(built)))
            assert_error(self, Undefined, lambda: threshold_obstacle(graph), what="obstacle")

    def test_small_graphs(self):
        for graph in list(graphs_up_to(4)) + list(all_graphs(5)):
            self.check(graph)
        for graph in list(some_graphs(6, 60)) + list(some_graphs(8, 40)):
            self.check(graph)

    def test_24_vertices(self):
        for graph in list(threshold_graphs()) + list(some_graphs(24, 6)) + graphs_in_pieces():
            self.check(graph)
        late = Graph.edgeless(20) + Graph.path(4)
        self.assertEqual(threshold_obstacle(late), (20, 21, 22, 23))

    def test_examples(self):
        self.assertEqual(threshold_order(Graph.path(1)), ((0, 0),))
        self.assertEqual(threshold_order(Graph.path(2)), ((1, 0), (0, 1)))
        self.assertEqual(threshold_order(Graph.edgeless(2)), ((1, 0), (0, 0)))
        self.assertEqual(threshold_order(Graph.path(3)), ((2, 0), (0, 0), (1, 1)))
        self.assertEqual(threshold_order(Graph(4, ((0, 2), (2, 3)))), ((3, 0), (0, 0), (2, 1), (1, 0)))
        self.assertEqual(threshold_obstacle(Graph.path(5)), (0, 1, 2, 3))
        self.assertEqual(threshold_obstacle(Graph.cycle(5)), (0, 1, 2, 3))

    def test_graphs_with_an_order_are_perfect(self):
        for graph in list(threshold_graphs()):
            small = graph.induced(tuple(range(min(8, graph.size))))
            self.assertIsNotNone(order_plainly(small))
            self.assertIs(is_perfect(small), True)
            self.assertEqual(split_partition(small), partition_plainly(small))
            cotree(graph)


if __name__ == "__main__":
    unittest.main()
