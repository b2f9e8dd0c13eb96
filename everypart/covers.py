"""Covers of the vertices of a graph by cliques."""

from everypart.cliques import is_nonempty_clique
from everypart.colorings import chromatic_number, optimal_coloring
from everypart.kinds import is_ascending


def clique_cover_number(graph):
    """The fewest cliques that together have all vertices."""
    return chromatic_number(~graph)


def optimal_clique_cover(graph):
    """Some ascending tuple of the fewest cliques, each vertex in just one."""
    coloring = optimal_coloring(~graph)
    # In normal form the least vertices of the colors ascend, so that the cliques do.
    return tuple([members_of(color, coloring) for color in range(max(coloring) + 1)])


def is_clique_cover(graph, value):
    """Whether a value of any kind is an ascending tuple of non-empty cliques, each vertex in just one."""
    if not isinstance(value, tuple) or not all([is_nonempty_clique(graph, member) for member in value]):
        return False
    covered = [vertex for clique in value for vertex in clique]
    return sorted(covered) == list(graph) and is_ascending(value)


def members_of(color, coloring):
    """The vertices that have this color."""
    return tuple([vertex for vertex, number in enumerate(coloring) if number == color])
