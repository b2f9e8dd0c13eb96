"""Subsets of the vertices of a graph, as ascending tuples."""

from everypart.errors import InvalidNumber
from everypart.kinds import is_ascending, is_between
from everypart.limits import MOST_EXHAUSTIVE


def is_subset(value, size):
    """Whether value is an ascending tuple of numbers below size."""
    if not isinstance(value, tuple):
        return False
    return all([is_between(vertex, 0, size - 1) for vertex in value]) and is_ascending(value)


def all_subsets(size):
    """All subsets, shorter ones first, those of one length in Python's order."""
    if not is_between(size, 1, MOST_EXHAUSTIVE):
        raise InvalidNumber(size)
    row = [()]
    while row:
        yield from row
        row = longer_subsets(row, size)


def subsets_of_length(length, size):
    """All subsets with so many vertices, in Python's order."""
    row = [()]
    for _ in range(length):
        row = longer_subsets(row, size)
    return row


def longer_subsets(row, size):
    """The subsets of a row, each with each vertex behind its last one put to it."""
    return [subset + (vertex,) for subset in row for vertex in range(end_of(subset), size)]


def end_of(subset):
    """The least number that is above all of the subset."""
    return subset[-1] + 1 if subset else 0


def is_part(subset, whole):
    """Whether each vertex of subset is in whole."""
    return all([vertex in whole for vertex in subset])


def have_common(one, other):
    """Whether some vertex is in both subsets."""
    return any([vertex in other for vertex in one])


def vertex_pairs(subset):
    """All pairs of vertices of the subset, the lesser vertex first, ascending."""
    return [(one, other) for place, one in enumerate(subset) for other in subset[place + 1:]]
