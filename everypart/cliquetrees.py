"""Clique trees: the maximal cliques of a graph, linked so that those with a vertex hang together."""

from everypart.chordal import elimination_order
from everypart.cliques import maximal_cliques
from everypart.errors import Undefined
from everypart.graphs import Graph, first_wrong_edge
from everypart.kinds import is_pair
from everypart.limits import require_exhaustible
from everypart.search import connected_pieces
from everypart.subsets import is_part, is_subset


def clique_tree(graph):
    """Some clique tree of the graph."""
    try:
        order = elimination_order(graph)
    except Undefined:
        raise Undefined("tree") from None
    cliques = cliques_along(graph, order)
    return cliques, heaviest_links(cliques)


def cliques_along(graph, order):
    """The maximal cliques, ascending, by an elimination order."""
    found = []
    for place, vertex in enumerate(order):
        behind = [other for other in order[place:] if other == vertex or (vertex, other) in graph]
        found.append(tuple(sorted(behind)))
    # The first one in the order of a maximal clique has all its others behind it.
    return tuple(sorted([clique for clique in found if not is_in_greater(clique, found)]))


def is_in_greater(clique, cliques):
    """Whether some other one of the cliques has all of this one."""
    return any([is_part(clique, other) for other in cliques if other != clique])


def heaviest_links(cliques):
    """Links that make the cliques a tree, with as many vertices in common as possible."""
    # A vertex of k cliques is common to k - 1 links of a tree at most, and just so if these hang together.
    reached = [0]
    links = []
    while len(reached) < len(cliques):
        outside = [place for place in range(len(cliques)) if place not in reached]
        weighed = [(common_count(cliques[one], cliques[other]), one, other) for one in reached for other in outside]
        _, one, other = max(weighed)
        links.append((min(one, other), max(one, other)))
        reached.append(other)
    return tuple(sorted(links))


def common_count(one, other):
    """How many vertices are in both subsets."""
    return len([vertex for vertex in one if vertex in other])


def is_clique_tree(graph, value):
    """Whether a value of any kind is a clique tree of the graph."""
    require_exhaustible(graph)
    if not is_pair(value):
        return False
    cliques, links = value
    if not are_maximal_cliques(graph, cliques) or not isinstance(links, tuple):
        return False
    if len(links) != len(cliques) - 1 or first_wrong_edge(len(cliques), links) is not None:
        return False
    # Graphs of at most 8 vertices have at most 18 maximal cliques, so that the links are those of a graph.
    tree = Graph(len(cliques), links)
    hanging = [tuple(tree)] + [places_with(vertex, cliques) for vertex in graph]
    return all([len(connected_pieces(tree, places)) == 1 for places in hanging])


def are_maximal_cliques(graph, value):
    """Whether a value of any kind is the ascending tuple of all maximal cliques."""
    if not isinstance(value, tuple) or not all([is_subset(member, graph.size) for member in value]):
        return False
    return value == maximal_cliques(graph)


def places_with(vertex, cliques):
    """The places of the cliques that have the vertex."""
    return tuple([place for place, clique in enumerate(cliques) if vertex in clique])
