"""What can be reached in a graph."""


def reached_from(graph, start, allowed):
    """The vertices reached from start through allowed ones, nearer ones first, each with the one ahead of it."""
    ahead = {start: None}
    layer = [start]
    while layer:
        following = []
        # The list that is filled here gets the layer's name, so that a copy of the layer is walked.
        for vertex in list(layer):
            for neighbor in graph.neighbors(vertex):
                if neighbor in allowed and neighbor not in ahead:
                    ahead[neighbor] = vertex
                    following.append(neighbor)
        layer = following
    return ahead


def way_back(vertex, ahead):
    """The vertices from this one back to the start of what is reached."""
    way = []
    while vertex is not None:
        way.append(vertex)
        vertex = ahead[vertex]
    return way


def connected_pieces(graph, subset):
    """The connected pieces of the induced graph of subset, each ascending, by their least vertices."""
    pieces = []
    left = subset
    while left:
        ahead = reached_from(graph, left[0], left)
        pieces.append(tuple([vertex for vertex in left if vertex in ahead]))
        left = [vertex for vertex in left if vertex not in ahead]
    return pieces
