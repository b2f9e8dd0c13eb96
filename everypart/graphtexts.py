"""Graphs as texts."""

from everypart.errors import InvalidText
from everypart.graphs import Graph
from everypart.kinds import first_fault
from everypart.limits import MOST_VERTICES
from everypart.subsets import vertex_pairs


def write_graph(graph):
    """The text of the graph: a line for its size, then a line for each edge."""
    return "\n".join([size_line(graph.size)] + [edge_line(one, other) for one, other in graph.edges])


def read_graph(text):
    """The graph whose text this is."""
    lines = text.split("\n")
    sizes = {size_line(size): size for size in range(1, MOST_VERTICES + 1)}
    if lines[0] not in sizes:
        raise InvalidText(text, 0)
    size = sizes[lines[0]]
    # Lines are compared with those that would be written, so that each number has just one form.
    pairs = {edge_line(one, other): (one, other) for one, other in vertex_pairs(tuple(range(size)))}
    edges = [pairs.get(line) for line in lines[1:]]
    place = first_fault(edges, [edge is not None for edge in edges])
    if place is not None:
        raise InvalidText(text, sum([len(line) + 1 for line in lines[:place + 1]]))
    return Graph(size, edges)


def size_line(size):
    """The line for the size of a graph."""
    return f"graph {size}"


def edge_line(one, other):
    """The line for an edge."""
    return f"{one}-{other}"
