"""Minimal imperfect graphs."""

from everypart.cliques import maximum_cliques, maximum_independent_sets
from everypart.errors import InvalidNumber, Undefined
from everypart.kinds import is_between
from everypart.perfect import bad_subsets, first_bad_subset
from everypart.subsets import have_common, is_part


def is_minimal_imperfect(graph):
    """Whether the graph is not perfect, but all its smaller induced graphs are."""
    # The whole is the last in the order of subsets: it is the first bad one if no other one is bad.
    return first_bad_subset(graph) == tuple(graph)


def minimal_imperfect_subsets(graph):
    """The subsets whose induced graphs are minimal imperfect, in the order of subsets."""
    found = []
    # What is within a bad subset stands ahead of it.
    for subset in bad_subsets(graph):
        if not any([is_part(smaller, subset) for smaller in found]):
            found.append(subset)
    return tuple(found)


def clique_pairs(graph):
    """For each maximum clique the pair of it and the maximum independent set that it does not meet."""
    if not is_minimal_imperfect(graph):
        raise Undefined("pairs")
    sets = maximum_independent_sets(graph)
    cliques = maximum_cliques(graph)
    return tuple([(clique, missed) for clique in cliques for missed in sets if not have_common(clique, missed)])


def partitions_without(graph, vertex):
    """The pair of partitions of the other vertices, into maximum independent sets and into maximum cliques."""
    if not is_between(vertex, 0, graph.size - 1):
        raise InvalidNumber(vertex)
    pairs = clique_pairs(graph)
    # Of any two vertices just one pair has the one in its clique and the other in its set; so
    # the sets that are paired with the cliques at the vertex have each other vertex once.
    sets = sorted([missed for clique, missed in pairs if vertex in clique])
    cliques = [clique for clique, missed in pairs if vertex in missed]
    return tuple(sets), tuple(cliques)
