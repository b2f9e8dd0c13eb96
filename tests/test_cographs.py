"""Promise [20]: cotrees and paths of four."""

import unittest
from itertools import permutations

from everypart.cographs import cotree, cotree_graph, path_of_four
from everypart.errors import InvalidTree, Undefined
from everypart.graphs import Graph
from everypart.perfect import is_perfect
from tests.helpers import (Dice, all_graphs, assert_error, assert_keeps, exchanged, graphs_in_pieces, graphs_up_to,
                           joined, nested, pieces_plainly, renumbered, some_graphs, values_of_all_kinds, variants)

OTHER = {"union": "join", "join": "union"}


def vertices_plainly(value):
    """The set of the vertices of a cotree, or None if a value of any kind is none."""
    if value.__class__ is int:
        return {value} if value >= 0 else None
    if value.__class__ is not tuple or len(value) != 2 or value[0].__class__ is not str or value[0] not in OTHER:
        return None
    if value[1].__class__ is not tuple or len(value[1]) < 2:
        return None
    found, least = set(), -1
    for part in value[1]:
        inner = vertices_plainly(part)
        if inner is None or inner & found or min(inner) <= least:
            return None
        if part.__class__ is tuple and part[0] == value[0]:
            return None
        least = min(inner)
        found |= inner
    return found


def is_whole_cotree(value):
    vertices = vertices_plainly(value)
    return vertices is not None and len(vertices) <= 24 and vertices == set(range(len(vertices)))


def word_of(value, one, other):
    """The word of the smallest node that has both vertices."""
    for part in value[1]:
        if {one, other} <= vertices_plainly(part):
            return word_of(part, one, other)
    return value[0]


def graph_plainly(value):
    size = len(vertices_plainly(value))
    return Graph(size, [(a, b) for a in range(size) for b in range(a + 1, size) if word_of(value, a, b) == "join"])


def random_cotree(dice, vertices, word):
    """A cotree of these vertices whose word, if it has any, is this one."""
    if len(vertices) == 1:
        return vertices[0]
    count = 2 + dice.below(min(3, len(vertices) - 1))
    mixed = dice.mixed(vertices)
    groups = [mixed[place:place + 1] for place in range(count)]
    for vertex in mixed[count:]:
        groups[dice.below(count)].append(vertex)
    return word, tuple(random_cotree(dice, group, OTHER[word]) for group in sorted(groups, key=min))


def random_cotrees():
    for seed in range(40):
        dice = Dice(seed)
        yield random_cotree(dice, list(range(2 + dice.below(23))), dice.pick(("union", "join")))


def deep_cotree(size):
    """A cotree as deep as it may be."""
    value = size - 1
    for vertex in range(size - 2, -1, -1):
        value = ("union" if vertex % 2 else "join", (vertex, value))
    return value


def paths_plainly(graph):
    for a, b, c, d in permutations(graph, 4):
        if joined(graph, a, b) and joined(graph, b, c) and joined(graph, c, d):
            if not joined(graph, a, c) and not joined(graph, a, d) and not joined(graph, b, d):
                return a, b, c, d
    return None


class CotreeTest(unittest.TestCase):

    def check(self, graph):
        """Just one of both is defined."""
        path = paths_plainly(graph)
        if path is None:
            value = cotree(graph=graph)
            self.assertTrue(is_whole_cotree(value), value)
            self.assertEqual(graph_plainly(value), graph)
            self.assertEqual(cotree_graph(value=value), graph)
            self.assertEqual(cotree(graph), value)
            assert_error(self, Undefined, lambda: path_of_four(graph), what="path")
        else:
            self.assertEqual(path_of_four(graph=graph), path)
            assert_error(self, Undefined, lambda: cotree(graph), what="cotree")

    def test_small_graphs(self):
        for graph in graphs_up_to(5):
            self.check(graph)
        for graph in list(some_graphs(6, 40)) + list(some_graphs(8, 30)):
            self.check(graph)

    def test_24_vertices(self):
        for graph in (Graph.edgeless(12) * Graph.complete(6) + Graph.edgeless(6), Graph.complete(24),
                      Graph.edgeless(24), Graph.edgeless(8) * Graph.edgeless(8) * Graph.edgeless(8),
                      graph_plainly(deep_cotree(24))):
            self.assertEqual(cotree_graph(cotree(graph)), graph)
            self.assertTrue(is_whole_cotree(cotree(graph)))
            assert_error(self, Undefined, lambda: path_of_four(graph), what="path")
        for graph in [Graph.path(24), ~Graph.path(24)] + list(some_graphs(24, 6)) + graphs_in_pieces()[:4]:
            self.check(graph)
        late = Graph.edgeless(20) + Graph.path(4)
        self.assertEqual(path_of_four(late), (20, 21, 22, 23))
        self.assertEqual(path_of_four(renumbered(late, tuple(range(23, -1, -1)))), (0, 1, 2, 3))

    def test_all_cotrees_come_back(self):
        for value in list(random_cotrees()) + [deep_cotree(size) for size in range(1, 25)]:
            graph = cotree_graph(value)
            self.assertEqual(graph, graph_plainly(value))
            self.assertEqual(cotree(graph), value)

    def test_parts_by_pieces(self):
        for graph in graphs_in_pieces()[4:5] + [Graph.complete(3) + Graph.path(1) + Graph.path(3)]:
            pieces = pieces_plainly(graph, graph)
            word, parts = cotree(graph)
            self.assertEqual(word, "union")
            self.assertEqual([tuple(sorted(vertices_plainly(part))) for part in parts], pieces)

    def test_examples(self):
        self.assertEqual(cotree(Graph.path(1)), 0)
        self.assertEqual(cotree(Graph.path(2)), ("join", (0, 1)))
        self.assertEqual(cotree(Graph.path(3)), ("join", (("union", (0, 2)), 1)))
        self.assertEqual(cotree(Graph.cycle(4)), ("join", (("union", (0, 2)), ("union", (1, 3)))))
        self.assertEqual(cotree(Graph.edgeless(2) + Graph.path(2)), ("union", (0, 1, ("join", (2, 3)))))
        self.assertEqual(path_of_four(Graph.path(4)), (0, 1, 2, 3))
        self.assertEqual(path_of_four(~Graph.path(4)), (1, 3, 0, 2))
        self.assertEqual(path_of_four(Graph.cycle(5)), (0, 1, 2, 3))

    def test_graphs_with_a_cotree_are_perfect(self):
        for graph in list(all_graphs(5))[::3] + list(some_graphs(6, 40)):
            if paths_plainly(graph) is None:
                self.assertIs(is_perfect(graph), True)
        for seed in range(20):
            value = random_cotree(Dice(seed), list(range(8)), "join")
            self.assertIs(is_perfect(cotree_graph(value)), True)


class CotreeGraphTest(unittest.TestCase):

    def check(self, value):
        if is_whole_cotree(value):
            self.assertEqual(cotree_graph(value), graph_plainly(value))
        else:
            assert_keeps(self, InvalidTree, "value", value, cotree_graph)

    def test_one_place_changed(self):
        for value in list(random_cotrees())[:12] + [cotree(Graph.cycle(4)), cotree(Graph.path(3)), 0, deep_cotree(6)]:
            for changed in variants(value):
                self.check(changed)

    def test_values_of_all_kinds_in_each_place(self):
        others = values_of_all_kinds() + [0, 1, 2, 3, (), ("union",), ("union", ()), ("join", (0,)), ("union", (1, 2)),
                                          ("join", (1, 2)), ("union", [0, 1]), ["union", (0, 1)], ("union", 0, 1),
                                          "union", ("complement", (0,)), ("Union", (0, 1)), ("", (0, 1)), (0, (1, 2)),
                                          (None, (0, 1)),
                                          (("union",), (0, 1)), (["union"], (0, 1)), (Graph.path(1), (0, 1))]
        for value in (("union", (0, ("join", (1, 2)), 3)), ("join", (("union", (0, 3)), ("union", (1, 2)))), 0,
                      cotree(Graph.complete(3) + Graph.path(3))):
            for changed in exchanged(value, others):
                self.check(changed)

    def test_24_and_25_vertices(self):
        for word in ("union", "join"):
            self.check((word, tuple(range(24))))
            self.assertEqual(cotree_graph((word, tuple(range(24)))).size, 24)
            assert_keeps(self, InvalidTree, "value", (word, tuple(range(25))), cotree_graph)
            assert_keeps(self, InvalidTree, "value", (word, (("join", (0, 1)),) + tuple(range(2, 25))), cotree_graph)
        self.check(deep_cotree(24))
        assert_keeps(self, InvalidTree, "value", deep_cotree(25), cotree_graph)
        assert_keeps(self, InvalidTree, "value", deep_cotree(30), cotree_graph)

    def test_vertices_begin_with_0_and_none_lacks(self):
        for value in (1, -1, 24, 10 ** 30, ("union", (1, 2)), ("join", (0, 2)), ("union", (0, 1, 3)), ("join", (-1, 0)),
                      ("union", (0, ("join", (1, 3)))), ("union", tuple(range(1, 25)))):
            assert_keeps(self, InvalidTree, "value", value, cotree_graph)
        self.assertEqual(cotree_graph(0), Graph.path(1))

    def test_faults(self):
        for value in (("union", (1, 0)), ("union", (0, 0)), ("union", (0, 1, 1)), ("join", (0, ("union", (0, 1)))),
                      ("join", (("union", (1, 2)), 0)), ("join", (("union", (0, 2)), ("union", (1, 2)))),
                      ("join", (("union", (0, 2)), ("union", (3, 1)))), ("union", (0, ("union", (1, 2)))),
                      ("join", (("join", (0, 1)), 2)), ("union", (0,)), ("union", ()), ("union", [0, 1]),
                      ["union", (0, 1)],
                      ("union", (0, 1), ()), ("union",), (), "union", True, False, None, ("union", (False, 1)),
                      ("union", (0, True)), ("glue", (0, 1)), ("UNION", (0, 1)), ("union", 0), ("union", "01"),
                      ("join", (("union", (0, ("join", (1,)))), 2)), Graph.path(1), nested(0, 10), (0, 1),
                      (("union", (0, 1)),), ("union", ((0,), 1))):
            assert_keeps(self, InvalidTree, "value", value, cotree_graph)

    def test_deep_faults(self):
        # A fault at the bottom is told with the whole value.
        for bottom in (22, True, None, [23], ("union", (23,)), "23", ("join", (23, 23)), ("graph", 1, ())):
            value = bottom
            for vertex in range(22, -1, -1):
                value = ("union" if vertex % 2 else "join", (vertex, value))
            assert_keeps(self, InvalidTree, "value", value, cotree_graph)


if __name__ == "__main__":
    unittest.main()
