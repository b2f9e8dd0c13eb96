"""Trees that build perfect graphs of smaller ones.

The graph of a node is told by its rows here: for each vertex the mask of its neighbors. Nodes
whose graphs have more vertices than a Graph may have must be judged too.
"""

from everypart.errors import InvalidTree
from everypart.graphs import Graph, first_wrong_edge
from everypart.kinds import is_ascending, is_between, is_pair
from everypart.limits import MOST_IN_LEAF, MOST_VERTICES, require_vertices
from everypart.perfect import is_perfect
from everypart.subsets import vertex_pairs
from everypart.tables import has_vertex, subset_of
from everypart.weighing import neighbor_masks


def tree_graph(tree):
    """The graph of a tree."""
    rows = judged_rows(tree)
    # A node has no fewer vertices than those within it: if any has too many, the whole has.
    require_vertices(len(rows), MOST_VERTICES)
    pairs = vertex_pairs(tuple(range(len(rows))))
    return Graph(len(rows), [(one, other) for one, other in pairs if has_vertex(rows[one], other)])


def judged_rows(node):
    """The rows of a node of any size; InvalidTree with the first node that is none, those within ahead."""
    if not has_form(node):
        raise InvalidTree(node)
    build = BUILDERS[node[0]]
    rows = build(node, [judged_rows(node[place]) for place in NODES_WITHIN[node[0]]])
    if rows is None:
        raise InvalidTree(node)
    return rows


def has_form(value):
    """Whether a value of any kind is a tuple of a word and as many members as the word asks for."""
    if not isinstance(value, tuple) or len(value) == 0 or not isinstance(value[0], str):
        return False
    return value[0] in LENGTHS and len(value) == LENGTHS[value[0]]


def leaf_rows(node, within):
    """The rows of a small perfect graph, or None if it is none."""
    size, edges = node[1:]
    if not is_between(size, 1, MOST_IN_LEAF) or not isinstance(edges, tuple):
        return None
    if first_wrong_edge(size, edges) is not None:
        return None
    graph = Graph(size, edges)
    return neighbor_masks(graph) if is_perfect(graph) else None


def union_rows(node, within):
    """The rows of two graphs beside each other."""
    one, other = within
    return one + moved_rows(other, len(one))


def join_rows(node, within):
    """The rows of two graphs all of whose vertices are joined."""
    one, other = within
    first, second = full_mask(len(one)), full_mask(len(other)) << len(one)
    return [row | second for row in one] + [row | first for row in moved_rows(other, len(one))]


def complement_rows(node, within):
    """The rows of the complement."""
    rows = within[0]
    return [full_mask(len(rows)) ^ (1 << vertex) ^ row for vertex, row in enumerate(rows)]


def put_rows(node, within):
    """The rows of the one graph with the other in the place of a vertex, or None if there is no such vertex."""
    one, other = within
    gone = node[2]
    if not is_between(gone, 0, len(one) - 1):
        return None
    ahead = len(one) - 1
    inside = full_mask(len(other)) << ahead
    outside = without_vertex(one[gone], gone)
    kept = [without_vertex(row, gone) | (inside if has_vertex(row, gone) else 0) for row in one]
    return kept[:gone] + kept[gone + 1:] + [row | outside for row in moved_rows(other, ahead)]


def glue_rows(node, within):
    """The rows of both graphs with some vertices shared, or None if they cannot be."""
    one, other = within
    shared = node[3]
    if not are_shared(one, other, shared):
        return None
    names = glued_names(len(one), len(other), shared)
    rows = one + [0] * (len(other) - len(shared))
    for vertex, row in enumerate(other):
        for neighbor in subset_of(row):
            rows[names[vertex]] = rows[names[vertex]] | (1 << names[neighbor])
    return rows


def are_shared(one, other, value):
    """Whether a value of any kind is pairs of vertices that the two graphs may share."""
    if not isinstance(value, tuple) or len(value) == 0:
        return False
    if not all([is_pair_of(pair, len(one), len(other)) for pair in value]):
        return False
    firsts = [first for first, second in value]
    seconds = [second for first, second in value]
    if not is_ascending(firsts) or len(set(seconds)) != len(seconds):
        return False
    return are_joined(one, firsts) and are_joined(other, seconds)


def is_pair_of(value, left, right):
    """Whether a value of any kind is a pair of a number below left and a number below right."""
    return is_pair(value) and is_between(value[0], 0, left - 1) and is_between(value[1], 0, right - 1)


def are_joined(rows, vertices):
    """Whether any two of the vertices are joined."""
    return all([has_vertex(rows[one], other) for one, other in vertex_pairs(vertices)])


def glued_names(size, count, shared):
    """What each of count vertices is called when glued behind a graph of this size."""
    names = {second: first for first, second in shared}
    fresh = [vertex for vertex in range(count) if vertex not in names]
    for place, vertex in enumerate(fresh):
        names[vertex] = size + place
    return names


def full_mask(size):
    """The mask of all vertices."""
    return (1 << size) - 1


def moved_rows(rows, steps):
    """The rows when each vertex is greater by so many steps."""
    return [row << steps for row in rows]


def without_vertex(row, gone):
    """The mask when a vertex goes and the later ones are each less by one."""
    return (row & full_mask(gone)) | ((row >> (gone + 1)) << gone)


LENGTHS = {"graph": 3, "union": 3, "join": 3, "complement": 2, "put": 4, "glue": 4}
NODES_WITHIN = {"graph": (), "union": (1, 2), "join": (1, 2), "complement": (1,), "put": (1, 3), "glue": (1, 2)}
BUILDERS = {"graph": leaf_rows, "union": union_rows, "join": join_rows, "complement": complement_rows,
            "put": put_rows, "glue": glue_rows}
