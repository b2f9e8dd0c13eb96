"""Split graphs and threshold graphs."""

from everypart.cliques import all_cliques, is_independent
from everypart.errors import Undefined
from everypart.limits import require_exhaustible
from everypart.subsets import subsets_of_length

# The degrees tell these graphs: two edges on four vertices, a path of four, cycles of four and of five.
TWO_EDGES = (1, 1, 1, 1)
PATH_OF_FOUR = (1, 1, 2, 2)
CYCLE_OF_FOUR = (2, 2, 2, 2)
CYCLE_OF_FIVE = (2, 2, 2, 2, 2)


def split_partition(graph):
    """The first greatest clique without which the vertices are independent, and these."""
    require_exhaustible(graph)
    pairs = [(clique, vertices_without(graph, clique)) for clique in all_cliques(graph)]
    splits = [(clique, rest) for clique, rest in pairs if is_independent(graph, rest)]
    if not splits:
        raise Undefined("split")
    greatest = max([len(clique) for clique, rest in splits])
    # Those of one size already stand in Python's order.
    return [(clique, rest) for clique, rest in splits if len(clique) == greatest][0]


def vertices_without(graph, subset):
    """The vertices that are not in the subset."""
    return tuple([vertex for vertex in graph if vertex not in subset])


def split_obstacle(graph):
    """The first subset that induces two edges apart or a cycle of four or of five."""
    return first_with_degrees(graph, (4, 5), (TWO_EDGES, CYCLE_OF_FOUR, CYCLE_OF_FIVE))


def threshold_obstacle(graph):
    """The first subset that induces two edges apart, a path of four or a cycle of four."""
    return first_with_degrees(graph, (4,), (TWO_EDGES, PATH_OF_FOUR, CYCLE_OF_FOUR))


def first_with_degrees(graph, lengths, kinds):
    """The first subset of these lengths whose induced graph has degrees of one of these kinds."""
    joined = [[int((one, other) in graph) for other in graph] for one in graph]
    for length in lengths:
        for subset in subsets_of_length(length, graph.size):
            if sorted_degrees(subset, joined) in kinds:
                return subset
    raise Undefined("obstacle")


def sorted_degrees(subset, joined):
    """How many neighbors within the subset its vertices have, the fewest first."""
    return tuple(sorted([sum([joined[one][other] for other in subset]) for one in subset]))


def threshold_order(graph):
    """The vertices, each with 0 if it is joined to none ahead of it, with 1 if it is joined to all."""
    order = ()
    left = list(graph)
    while left:
        pair = last_pair(graph, left)
        order = (pair,) + order
        left = [vertex for vertex in left if vertex != pair[0]]
    return order


def last_pair(graph, left):
    """The least vertex that is joined to no other one left, with 0, or else to all others, with 1."""
    counts = [(vertex, len([1 for other in left if (vertex, other) in graph])) for vertex in left]
    for bit, wanted in enumerate((0, len(left) - 1)):
        fitting = [vertex for vertex, count in counts if count == wanted]
        if fitting:
            return fitting[0], bit
    raise Undefined("order")
