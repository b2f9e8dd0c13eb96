"""Promise [29]: clique trees."""

import unittest
from itertools import combinations

from everypart.chordal import elimination_order
from everypart.cliques import maximal_cliques
from everypart.cliquetrees import clique_tree, is_clique_tree
from everypart.errors import TooLarge, Undefined
from everypart.graphs import Graph
from everypart.shares import Share
from tests.helpers import (Dice, all_graphs, assert_error, assert_tuples, chordal_graphs, exchanged, graphs_in_pieces,
                           graphs_up_to, is_clique_plainly, is_plain_subset, joined, nested, nonempty, order_plainly,
                           renumbered, some_graphs, values_of_all_kinds, variants)


def cliques_plainly(graph):
    """All maximal cliques of a graph of any size, each grown from those of the vertices ahead."""
    found = [()]
    for vertex in graph:
        grown = [tuple(a for a in clique if joined(graph, a, vertex)) + (vertex,) for clique in found]
        every = sorted(set(found + grown))
        found = [one for one in every if not any(set(one) < set(other) for other in every)]
    return tuple(found)


def hang_together(places, links):
    """Whether each two of the places can be reached by links between them."""
    reached = [places[0]]
    for place in reached:
        reached.extend(other for other in places if other not in reached
                       and ((place, other) in links or (other, place) in links))
    return len(reached) == len(places)


def is_tree_plainly(graph, value):
    """Whether a value of any kind is a clique tree."""
    if value.__class__ is not tuple or len(value) != 2 or value[0].__class__ is not tuple:
        return False
    cliques, links = value
    if not all(is_plain_subset(clique, graph.size) for clique in cliques) or cliques != cliques_plainly(graph):
        return False
    if links.__class__ is not tuple or len(links) != len(cliques) - 1:
        return False
    if not all(is_plain_subset(link, len(cliques)) and len(link) == 2 for link in links):
        return False
    if list(links) != sorted(set(links)) or not hang_together(range(len(cliques)), links):
        return False
    return all(hang_together([place for place, clique in enumerate(cliques) if vertex in clique], links)
               for vertex in graph)


class CliqueTreeTest(unittest.TestCase):

    def check(self, graph):
        """There is one exactly if there is an elimination order."""
        if order_plainly(graph) is None:
            assert_error(self, Undefined, lambda: clique_tree(graph), what="tree")
            return
        tree = clique_tree(graph=graph)
        assert_tuples(self, tree)
        self.assertTrue(is_tree_plainly(graph, tree), (graph.edges, tree))
        self.assertLessEqual(len(tree[0]), graph.size)
        self.assertEqual(clique_tree(graph), tree)
        if graph.size <= 8:
            self.assertIs(is_clique_tree(graph, tree), True)
            self.assertEqual(tree[0], maximal_cliques(graph))

    def test_small_graphs(self):
        for graph in graphs_up_to(5):
            self.check(graph)
        for graph in list(some_graphs(6, 60)) + list(some_graphs(7, 60)) + list(some_graphs(8, 60)):
            self.check(graph)

    def test_chordal_graphs_of_24(self):
        for graph in chordal_graphs():
            elimination_order(graph)
            self.check(graph)

    def test_chordal_graphs_of_8(self):
        for place, graph in enumerate(chordal_graphs()):
            for start in (0, 7, 15):
                self.check(graph.induced(tuple(sorted(Dice(place + start).mixed(range(24))[:8]))))

    def test_graphs_in_pieces(self):
        for graph in graphs_in_pieces():
            self.check(graph)
        for graph in (Graph.complete(3) + Graph.edgeless(2) + Graph.path(4), Graph.edgeless(24), Graph.complete(24),
                      Graph.path(12) + Graph.path(12), Graph.path(24), Graph.edgeless(1) * Graph.path(23),
                      Graph.complete(12) * Graph.edgeless(12)):
            self.check(graph)
            self.assertEqual(len(clique_tree(graph)[1]), len(clique_tree(graph)[0]) - 1)

    def test_examples(self):
        self.assertEqual(clique_tree(Graph.path(1)), (((0,),), ()))
        self.assertEqual(clique_tree(Graph.complete(4)), (((0, 1, 2, 3),), ()))
        self.assertEqual(clique_tree(Graph.path(4)), (((0, 1), (1, 2), (2, 3)), ((0, 1), (1, 2))))
        self.assertEqual(clique_tree(Graph.edgeless(2)), (((0,), (1,)), ((0, 1),)))
        self.assertEqual(clique_tree(Graph(4, ((0, 2), (1, 2), (1, 3)))), (((0, 2), (1, 2), (1, 3)), ((0, 1), (1, 2))))

    def test_without_one(self):
        for graph in (Graph.cycle(4), Graph.cycle(24), Graph.cycle(5) * Graph.path(1), Graph.path(20) + Graph.cycle(4)):
            assert_error(self, Undefined, lambda: clique_tree(graph), what="tree")

    def test_at_most_as_many_cliques_as_vertices(self):
        for graph in list(chordal_graphs()) + list(all_graphs(5))[::5]:
            if order_plainly(graph) is not None:
                self.assertLessEqual(len(cliques_plainly(graph)), graph.size)


class IsCliqueTreeTest(unittest.TestCase):

    def check(self, graph):
        tree = clique_tree(graph)
        self.assertIs(is_clique_tree(graph=graph, value=tree), True)
        others = values_of_all_kinds() + [(), (0,), (0, 1), (1, 0), (0, 1, 2), Share(0, 1), (Share(0, 1), 1)]
        for value in list(variants(tree)) + list(exchanged(tree, others)):
            self.assertIs(is_clique_tree(graph, value), is_tree_plainly(graph, value), value)

    def test_right_ones_with_one_place_changed(self):
        for graph in (Graph.path(1), Graph.path(4), Graph.complete(3), Graph.edgeless(4), Graph.path(2) + Graph.path(3),
                      renumbered(Graph.path(5), (2, 0, 4, 1, 3)), Graph.edgeless(1) * Graph.path(4),
                      Graph.edgeless(5) * Graph.complete(2)):
            self.check(graph)

    def test_all_links(self):
        graphs = list(graphs_up_to(4)) + list(all_graphs(5))[::23] + [Graph.path(5), Graph.path(6), Graph.cycle(5)]
        found = 0
        for graph in graphs:
            cliques = maximal_cliques(graph)
            pairs = list(combinations(range(len(cliques)), 2))
            for count in range(len(cliques) + 1):
                for links in combinations(pairs, count):
                    answer = is_clique_tree(graph, (cliques, links))
                    self.assertIs(answer, is_tree_plainly(graph, (cliques, links)))
                    found += answer
        self.assertGreater(found, 100)

    def test_other_cliques(self):
        for graph in (Graph.path(3), Graph.complete(3), Graph(4, ((0, 1), (0, 2), (1, 2), (2, 3)))):
            parts = [part for part in nonempty(graph.size) if is_clique_plainly(graph, part)]
            for count in range(4):
                for cliques in combinations(sorted(parts), count):
                    links = tuple((place, place + 1) for place in range(count - 1))
                    for value in ((cliques, links), (cliques[::-1], links), (links, cliques)):
                        self.assertIs(is_clique_tree(graph, value), is_tree_plainly(graph, value))

    def test_graphs_without_one(self):
        for graph in (Graph.cycle(4), Graph.cycle(8), Graph.cycle(5) * Graph.path(2)):
            cliques = maximal_cliques(graph)
            for links in (tuple((place, place + 1) for place in range(len(cliques) - 1)),
                          tuple((0, place) for place in range(1, len(cliques))), ()):
                self.assertIs(is_clique_tree(graph, (cliques, links)), False)

    def test_many_cliques(self):
        # Of eight vertices no graph has more maximal cliques than this one: 18, of which no links make a clique tree.
        graph = ~(Graph.complete(3) + Graph.complete(3) + Graph.complete(2))
        cliques = maximal_cliques(graph)
        self.assertEqual(len(cliques), 18)
        links = tuple((place, place + 1) for place in range(17))
        self.assertIs(is_clique_tree(graph, (cliques, links)), False)

    def test_values_of_other_kinds(self):
        graph = Graph.path(3)
        right = (((0, 1), (1, 2)), ((0, 1),))
        self.assertIs(is_clique_tree(graph, right), True)
        for value in values_of_all_kinds() + [
                list(right), (right[0], [(0, 1)]), (list(right[0]), right[1]), (right[0], ((1, 0),)), (right[0], ()),
                (right[0], ([0, 1],)), (right[0], ((0, 1), (0, 1))), (right[0], ((False, 1),)),
                (right[0], ((0, True),)),
                (((False, 1), (1, 2)), ((0, 1),)), (((0, True), (1, 2)), ((0, 1),)), (([0, 1], (1, 2)), ((0, 1),)),
                (((1, 2), (0, 1)), ((0, 1),)), (((0, 1), (1, 2), (2,)), ((0, 1), (1, 2))), right + ((),), (right[0],),
                (((1, 0), (1, 2)), ((0, 1),)), (right[0], ((0, 2),)), (right[0], ((0, 0),)), (right[0], ((-1, 0),)),
                ((graph, (1, 2)), ((0, 1),)), (right[0], (graph,)), (right[0], (0, 1)), nested(right, 3), right[0]]:
            self.assertIs(is_clique_tree(graph, value), False, value)

    def test_8_and_9_vertices(self):
        self.assertIs(is_clique_tree(Graph.path(8), clique_tree(Graph.path(8))), True)
        for graph in (Graph.path(9), Graph.edgeless(24)):
            for value in (clique_tree(graph), (), None, 0):
                assert_error(self, TooLarge, lambda: is_clique_tree(graph, value), what="vertices")


if __name__ == "__main__":
    unittest.main()
