"""Colorings of the graphs of trees, with cliques as large."""

from everypart.colorings import normal_form
from everypart.trees import tree_graph
from everypart.weighing import equal_cover
from everypart.weights import require_weights


def tree_coloring(tree):
    """Some coloring of the tree's graph, in normal form, and a clique with as many vertices as it has colors."""
    graph = tree_graph(tree)
    cover, clique = equal_cover(graph, (1,) * graph.size)
    return normal_form(tuple([place_with(vertex, cover) for vertex in graph])), clique


def tree_cover(tree, weights):
    """Some cover of weights of the tree's graph, and a clique that weighs as much as its times add up to."""
    graph = tree_graph(tree)
    require_weights(graph, weights)
    return equal_cover(graph, weights)


def place_with(vertex, cover):
    """The place of the pair whose set has the vertex."""
    return [place for place, pair in enumerate(cover) if vertex in pair[0]][0]
