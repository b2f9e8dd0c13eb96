"""Promise [17]: colorings and covers of the graphs of trees."""

import unittest

from everypart.errors import InvalidTree, InvalidWeights, TooLarge
from everypart.graphs import Graph
from everypart.treecolors import tree_coloring, tree_cover
from everypart.trees import tree_graph
from tests.helpers import (Dice, assert_error, assert_keeps, assert_tuples, heaviest_plainly, is_clique_plainly,
                           is_cover_plainly, is_plain_subset, is_weights_plainly, nested, values_of_all_kinds, variants,
                           weigh)
from tests.tree_helpers import (APART, EDGE, FIVE, HOUSE, LEAF, LEAVES, PATH, RING, TRIANGLE, complements, random_trees,
                                trees_of_all_words)

SEVENS = ("union", ("graph", 7, ()), ("union", ("graph", 7, ()), ("graph", 7, ())))
PAIRS = ("graph", 6, ((0, 1), (2, 3), (4, 5)))


def trees_of_24():
    """Trees of 24 vertices that have many cliques, many independent sets, or both."""
    pairs = ("union", ("union", PAIRS, PAIRS), ("union", PAIRS, PAIRS))
    triangles = ("union", TRIANGLE, TRIANGLE)
    for _ in range(6):
        triangles = ("union", triangles, TRIANGLE)
    paths = ("join", ("join", PATH, PATH), ("union", ("join", PATH, RING), ("union", PATH, PATH)))
    put = ("put", ("put", ("put", HOUSE, 2, HOUSE), 7, ("complement", HOUSE)), 3,
           ("union", PATH, ("put", HOUSE, 4, RING)))
    glue = ("glue", ("complement", HOUSE), ("glue", RING, PATH, ((0, 0), (3, 1))), ((0, 0),))
    glue = ("glue", ("join", glue, EDGE), ("put", glue, 3, RING), ((2, 4),))
    found = [pairs, triangles, paths, put, glue, ("union", SEVENS, TRIANGLE)]
    return found + [("complement", tree) for tree in found] + random_trees(15, 5, 24, 23, seed=7)


class ColoringTest(unittest.TestCase):

    def check(self, tree):
        graph = tree_graph(tree)
        answer = tree_coloring(tree=tree)
        assert_tuples(self, answer)
        coloring, clique = answer
        self.assertEqual(len(coloring), graph.size)
        self.assertTrue(all(coloring[a] != coloring[b] for a, b in graph.edges))
        self.assertEqual([max(coloring[:place], default=-1) + 1 for place in range(graph.size) if coloring[place]
                          not in coloring[:place]], list(range(max(coloring) + 1)))
        self.assertTrue(is_plain_subset(clique, graph.size) and is_clique_plainly(graph, clique))
        self.assertEqual(max(coloring) + 1, len(clique))
        self.assertEqual(tree_coloring(tree), answer)

    def test_small_trees(self):
        for tree in list(LEAVES) + trees_of_all_words() + random_trees(150, 3, 24, seed=8):
            self.check(tree)

    def test_24_vertices(self):
        for tree in trees_of_24():
            self.check(tree)

    def test_examples(self):
        self.assertEqual(tree_coloring(LEAF), ((0,), (0,)))
        self.assertEqual(tree_coloring(("join", PATH, TRIANGLE))[0][0], 0)
        self.assertEqual(len(tree_coloring(("join", PATH, TRIANGLE))[1]), 5)
        self.assertEqual(tree_coloring(("union", APART, LEAF))[0], (0, 0, 0))
        self.assertEqual(tree_coloring(("complement", ("union", APART, LEAF))), ((0, 1, 2), (0, 1, 2)))

    def test_sixty_nodes_deep(self):
        self.check(complements(HOUSE, 59))
        tree = LEAF
        for _ in range(23):
            tree = ("glue", tree, EDGE, ((0, 1),))
        for _ in range(6):
            tree = ("put", LEAF, 0, tree)
        self.check(tree)


class CoverTest(unittest.TestCase):

    def check(self, tree, weights):
        graph = tree_graph(tree)
        answer = tree_cover(tree=tree, weights=weights)
        assert_tuples(self, answer)
        cover, clique = answer
        self.assertTrue(is_cover_plainly(graph, weights, cover), (tree, weights, cover))
        self.assertTrue(is_plain_subset(clique, graph.size) and is_clique_plainly(graph, clique))
        self.assertEqual(sum(times for _, times in cover), weigh(clique, weights))
        self.assertEqual(tree_cover(tree, weights), answer)
        return cover

    def all_weights(self, tree, seeds):
        size = tree_graph(tree).size
        dice = Dice(size + seeds)
        for seed in range(seeds):
            yield tuple(dice.below(41) for _ in range(size))
            yield tuple(dice.pick((0, 1, 39, 40)) for _ in range(size))
        for weight in (0, 1, 40):
            yield (weight,) * size

    def test_small_trees(self):
        for tree in list(LEAVES) + trees_of_all_words() + random_trees(60, 3, 8, seed=9):
            for weights in self.all_weights(tree, 2):
                cover = self.check(tree, weights)
                if len(weights) <= 8:
                    self.assertEqual(sum(times for _, times in cover), heaviest_plainly(tree_graph(tree), weights))

    def test_24_vertices(self):
        for tree in trees_of_24():
            for weights in self.all_weights(tree, 2):
                self.check(tree, weights)

    def test_all_weights_0(self):
        for tree in (LEAF, PATH, ("union", SEVENS, TRIANGLE)):
            self.assertEqual(tree_cover(tree, (0,) * tree_graph(tree).size)[0], ())

    def test_wrong_weights(self):
        tree = ("join", APART, LEAF)
        right = (3, 0, 40)
        self.check(tree, right)
        for value in list(variants(right)) + values_of_all_kinds() + [(3, 0, 41), (), right[:2], right + (0,),
                                                                      list(right),
                                                                      (3, 0, True), nested(right, 8), tree, None]:
            if not is_weights_plainly(Graph(3, ()), value):
                assert_keeps(self, InvalidWeights, "value", value, lambda weights: tree_cover(tree, weights))
        # There must be as many as the tree's graph has vertices, not its nodes.
        glue = ("glue", TRIANGLE, TRIANGLE, ((0, 0), (1, 1)))
        self.check(glue, (1, 2, 3, 4))
        for count in (1, 2, 3, 5, 6):
            assert_keeps(self, InvalidWeights, "value", (1,) * count, lambda weights: tree_cover(glue, weights))


class ErrorsTest(unittest.TestCase):

    def check_wrong(self, tree, node):
        for call in (tree_coloring, lambda value: tree_cover(value, None), lambda value: tree_cover(value, (1,))):
            with self.assertRaises(InvalidTree) as caught:
                call(tree)
            self.assertIs(caught.exception.__class__, InvalidTree)
            self.assertIs(caught.exception.value, node)

    def test_errors_of_trees_come_first(self):
        bad, worse = ("graph", 8, ()), ("put", LEAF, 1, LEAF)
        large = ("union", SEVENS, PATH)
        for node in (FIVE, bad, worse, None, [], ("union", LEAF), ("graph", 1, []), Graph.path(1), True, "graph", ()):
            self.check_wrong(node, node)
            self.check_wrong(("union", node, bad), node)
            self.check_wrong(("join", large, ("complement", node)), node)
        for weights in (None, (1,) * 25, (41,) * 25, (1,)):
            assert_error(self, TooLarge, lambda: tree_cover(large, weights), what="vertices")
        assert_error(self, TooLarge, lambda: tree_coloring(large), what="vertices")


if __name__ == "__main__":
    unittest.main()
