"""Elimination orders and chordless cycles."""

from everypart.cliques import is_clique
from everypart.errors import InvalidOrder, Undefined
from everypart.kinds import is_between, is_order
from everypart.search import reached_from, way_back
from everypart.subsets import vertex_pairs


def is_elimination_order(graph, order):
    """Whether each vertex in order is simplicial in what it and those behind it induce."""
    if not is_order(order, graph.size):
        raise InvalidOrder(order)
    return all([is_simplicial(graph, vertex, order[place:]) for place, vertex in enumerate(order)])


def elimination_order(graph):
    """The elimination order in which each vertex is the least simplicial one of what is left."""
    order = []
    left = list(graph)
    while left:
        simplicial = [vertex for vertex in left if is_simplicial(graph, vertex, left)]
        if not simplicial:
            raise Undefined("order")
        order.append(simplicial[0])
        left = [vertex for vertex in left if vertex != simplicial[0]]
    return tuple(order)


def is_simplicial(graph, vertex, left):
    """Whether the neighbors of the vertex that are left are a clique."""
    return is_clique(graph, tuple([neighbor for neighbor in graph.neighbors(vertex) if neighbor in left]))


def is_chordless_cycle(graph, value):
    """Whether a value of any kind is a chordless cycle of the graph."""
    if not isinstance(value, tuple) or len(value) < 4:
        return False
    if not all([is_between(vertex, 0, graph.size - 1) for vertex in value]) or len(set(value)) != len(value):
        return False
    if value[0] != min(value) or value[1] > value[-1]:
        return False
    places = vertex_pairs(tuple(range(len(value))))
    return all([((value[one], value[other]) in graph) == are_beside(one, other, len(value)) for one, other in places])


def are_beside(one, other, length):
    """Whether two places, the lesser one first, are beside each other in a ring of this length."""
    return other - one in (1, length - 1)


def chordless_cycle(graph):
    """Some chordless cycle."""
    for vertex in graph:
        later = [neighbor for neighbor in graph.neighbors(vertex) if neighbor > vertex]
        for one, other in vertex_pairs(later):
            if (one, other) not in graph:
                path = path_apart_from(graph, vertex, one, other)
                if path:
                    return (vertex,) + tuple(path)
    raise Undefined("cycle")


def path_apart_from(graph, vertex, one, other):
    """A shortest path from one to other past later vertices that are not joined to vertex; empty if there is none."""
    # A shortest path has no chords. The cycle begins with its least vertex, as only later ones are allowed.
    allowed = [later for later in range(vertex + 1, graph.size) if (vertex, later) not in graph] + [one, other]
    ahead = reached_from(graph, other, allowed)
    return way_back(one, ahead) if one in ahead else []
