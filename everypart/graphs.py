"""Graphs of at most 24 vertices."""

from everypart.errors import InvalidGraph, InvalidNumber, InvalidSubset
from everypart.kinds import first_fault, is_between, is_integer, is_pair, is_sequence
from everypart.limits import MOST_VERTICES, require_vertices
from everypart.subsets import is_subset, vertex_pairs


class Graph:
    """The vertices from 0 to size - 1 and the edges between them."""

    def __init__(self, size, edges):
        if not is_between(size, 1, MOST_VERTICES):
            raise InvalidGraph("size", 0)
        place = first_wrong_edge(size, edges)
        if place is not None:
            raise InvalidGraph("edges", place)
        self.size = size
        self.edges = tuple(edges)
        self._vertices = tuple(range(size))
        self._rows = neighbor_rows(size, self.edges)

    def __len__(self):
        return len(self._vertices)

    def __iter__(self):
        return iter(self._vertices)

    def __contains__(self, value):
        if not is_pair(value):
            return False
        one, other = value
        if not is_between(one, 0, self.size - 1) or not is_integer(other):
            return False
        return other in self._rows[one]

    def __eq__(self, other):
        return isinstance(other, Graph) and self.size == other.size and self.edges == other.edges

    def __invert__(self):
        return Graph(self.size, [pair for pair in vertex_pairs(self._vertices) if pair not in self])

    def __add__(self, other):
        size = common_size(self, other)
        return Graph(size, self.edges + moved_edges(other.edges, self.size))

    def __mul__(self, other):
        size = common_size(self, other)
        between = tuple([(one, two) for one in range(self.size) for two in range(self.size, size)])
        return Graph(size, sorted(self.edges + between + moved_edges(other.edges, self.size)))

    @property
    def degrees(self):
        """How many neighbors each vertex has."""
        return tuple([len(row) for row in self._rows])

    def neighbors(self, vertex):
        """The vertices joined to this one, ascending."""
        if not is_between(vertex, 0, self.size - 1):
            raise InvalidNumber(vertex)
        return self._rows[vertex]

    def induced(self, subset):
        """The graph on the vertices of a non-empty subset, renumbered from 0."""
        if not is_subset(subset, self.size) or len(subset) == 0:
            raise InvalidSubset(subset)
        places = {vertex: place for place, vertex in enumerate(subset)}
        kept = [(places[one], places[other]) for one, other in self.edges if one in places and other in places]
        return Graph(len(subset), kept)

    @classmethod
    def complete(cls, size):
        """The graph with all edges."""
        require_size(size, 1)
        return cls(size, vertex_pairs(tuple(range(size))))

    @classmethod
    def edgeless(cls, size):
        """The graph without edges."""
        require_size(size, 1)
        return cls(size, ())

    @classmethod
    def path(cls, size):
        """The graph in which each vertex is joined to the next one."""
        require_size(size, 1)
        return cls(size, [(vertex, vertex + 1) for vertex in range(size - 1)])

    @classmethod
    def cycle(cls, size):
        """The path with its ends joined."""
        require_size(size, 3)
        steps = [(vertex, vertex + 1) for vertex in range(size - 1)]
        return cls(size, sorted(steps + [(0, size - 1)]))

    @classmethod
    def circular(cls, w, a):
        """The ring of a * w + 1 vertices, joined if they are at most w - 1 steps apart."""
        for number in (w, a):
            if not is_integer(number) or number < 2:
                raise InvalidNumber(number)
        size = a * w + 1
        require_vertices(size, MOST_VERTICES)
        pairs = vertex_pairs(tuple(range(size)))
        return cls(size, [(one, other) for one, other in pairs if ring_steps(one, other, size) < w])


def first_wrong_edge(size, edges):
    """The place of the first of edges that cannot stand there, or None."""
    if not is_sequence(edges):
        return 0
    return first_fault(edges, [is_edge(edge, size) for edge in edges])


def is_edge(value, size):
    """Whether value is a pair of vertices, the lesser one first."""
    return is_pair(value) and is_subset(value, size)


def neighbor_rows(size, edges):
    """For each vertex the ascending tuple of those joined to it."""
    rows = [[] for _ in range(size)]
    # Ascending edges bring each vertex its lesser neighbors first, so that the rows ascend too.
    for one, other in edges:
        rows[one].append(other)
        rows[other].append(one)
    return tuple([tuple(row) for row in rows])


def common_size(one, other):
    """How many vertices two graphs have together, if these are not too many."""
    size = one.size + other.size
    require_vertices(size, MOST_VERTICES)
    return size


def moved_edges(edges, steps):
    """The edges with each vertex greater by so many steps."""
    return tuple([(one + steps, other + steps) for one, other in edges])


def ring_steps(one, other, size):
    """How many steps lie between two vertices along a ring, the shorter way, one being the lesser."""
    return min(other - one, size - other + one)


def require_size(size, least):
    """Raise InvalidNumber unless a graph with at least so many vertices may have this size."""
    if not is_between(size, least, MOST_VERTICES):
        raise InvalidNumber(size)
