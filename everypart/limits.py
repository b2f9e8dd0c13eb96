"""How large graphs and numbers may be."""

from everypart.errors import TooLarge

MOST_VERTICES = 24
MOST_EXHAUSTIVE = 8
MOST_WEIGHT = 40
MOST_COVERED = 8
MOST_IN_LEAF = 7
MOST_ON_SIDE = 12
MOST_FRACTIONAL = 7
MOST_COLORS = 1000


def require_vertices(count, most):
    """Raise TooLarge if there are more than the most vertices."""
    if count > most:
        raise TooLarge("vertices")


def require_exhaustible(graph):
    """Raise TooLarge unless all subsets of the graph may be gone through."""
    require_vertices(graph.size, MOST_EXHAUSTIVE)
