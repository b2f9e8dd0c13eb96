"""Cliques and independent sets of a graph."""

from everypart.errors import InvalidSubset
from everypart.limits import require_exhaustible
from everypart.subsets import all_subsets, is_subset, vertex_pairs
from everypart.tables import clique_numbers, mask_of


def is_clique(graph, subset):
    """Whether each two vertices of the subset are joined."""
    require_subset(graph, subset)
    return all([pair in graph for pair in vertex_pairs(subset)])


def is_independent(graph, subset):
    """Whether no two vertices of the subset are joined."""
    require_subset(graph, subset)
    return not any([pair in graph for pair in vertex_pairs(subset)])


def clique_number(graph):
    """The size of the greatest clique."""
    require_exhaustible(graph)
    return clique_numbers(graph)[-1]


def independence_number(graph):
    """The size of the greatest independent set."""
    return clique_number(~graph)


def maximum_cliques(graph):
    """All cliques of the greatest size, ascending."""
    greatest = clique_number(graph)
    # Those of one size already stand in Python's order.
    return tuple([clique for clique in all_cliques(graph) if len(clique) == greatest])


def maximum_independent_sets(graph):
    """All independent sets of the greatest size, ascending."""
    return maximum_cliques(~graph)


def maximal_cliques(graph):
    """All cliques that are in no greater clique, ascending."""
    require_exhaustible(graph)
    return tuple(sorted([clique for clique in all_cliques(graph) if not can_grow(graph, clique)]))


def all_cliques(graph):
    """All cliques of a small graph, the empty one too, in the order of subsets."""
    numbers = clique_numbers(graph)
    return [subset for subset in all_subsets(graph.size) if numbers[mask_of(subset)] == len(subset)]


def can_grow(graph, clique):
    """Whether some vertex is joined to each one of the clique."""
    return any([all([(member, vertex) in graph for member in clique]) for vertex in graph])


def is_nonempty_clique(graph, value):
    """Whether a value of any kind is a clique that is not empty."""
    return is_subset(value, graph.size) and len(value) > 0 and is_clique(graph, value)


def is_nonempty_independent(graph, value):
    """Whether a value of any kind is an independent set that is not empty."""
    return is_subset(value, graph.size) and len(value) > 0 and is_independent(graph, value)


def require_subset(graph, value):
    """Raise InvalidSubset unless value is a subset of the graph."""
    if not is_subset(value, graph.size):
        raise InvalidSubset(value)
