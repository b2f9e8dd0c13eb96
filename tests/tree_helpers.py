"""Trees, right ones and ones with faults, and what they are by plain steps."""

from everypart.graphs import Graph
from tests.helpers import Dice, bad_plainly, is_plain_number

LENGTHS = {"graph": 3, "union": 3, "join": 3, "complement": 2, "put": 4, "glue": 4}
WITHIN = {"graph": (), "union": (1, 2), "join": (1, 2), "complement": (1,), "put": (1, 3), "glue": (1, 2)}
LEAF = ("graph", 1, ())
EDGE = ("graph", 2, ((0, 1),))
APART = ("graph", 2, ())
PATH = ("graph", 4, ((0, 1), (1, 2), (2, 3)))
TRIANGLE = ("graph", 3, ((0, 1), (0, 2), (1, 2)))
RING = ("graph", 4, ((0, 1), (0, 3), (1, 2), (2, 3)))
FIVE = ("graph", 5, ((0, 1), (0, 4), (1, 2), (2, 3), (3, 4)))
HOUSE = ("graph", 5, ((0, 1), (0, 3), (1, 2), (1, 4), (2, 3), (2, 4)))
LEAVES = (LEAF, EDGE, APART, PATH, TRIANGLE, RING, HOUSE, ("graph", 7, ()), ("graph", 6, ((0, 1), (2, 3), (4, 5))),
          ("graph", 7, tuple((a, b) for a in range(7) for b in range(a + 1, 7))),
          ("graph", 7, ((0, 3), (0, 4), (1, 3), (1, 5), (2, 4), (2, 6))))


class Wrong(Exception):
    """The node that is none."""


class PlainGraph:
    """A graph of any size: how many vertices, and the set of its edges, each as a frozenset."""

    def __init__(self, size, edges):
        self.size = size
        self.edges = set(edges)

    def has(self, one, other):
        return frozenset((one, other)) in self.edges

    def clique(self, vertices):
        return all(self.has(a, b) for a in vertices for b in vertices if a != b)

    def pairs(self):
        return tuple(sorted(tuple(sorted(edge)) for edge in self.edges))


PERFECT_LEAVES = {}


def leaf_is_right(size, edges):
    if not is_plain_number(size, 7) or size == 0 or edges.__class__ is not tuple:
        return False
    for edge in edges:
        if edge.__class__ is not tuple or len(edge) != 2 or not all(is_plain_number(end, size - 1) for end in edge):
            return False
    if any(a >= b for a, b in edges) or list(edges) != sorted(set(edges)):
        return False
    if (size, edges) not in PERFECT_LEAVES:
        PERFECT_LEAVES[(size, edges)] = not bad_plainly(Graph(size, edges))
    return PERFECT_LEAVES[(size, edges)]


def edges_of(graph, names):
    return {frozenset(names[end] for end in edge) for edge in graph.edges}


def across(first, second):
    return {frozenset((a, b)) for a in first for b in second}


def put_plainly(node, one, other):
    gone = node[2]
    if not is_plain_number(gone, one.size - 1):
        raise Wrong(node)
    # Names stand for vertices until all edges are there.
    stay = [("one", vertex) for vertex in range(one.size) if vertex != gone]
    come = [("other", vertex) for vertex in range(other.size)]
    named = {vertex: ("one", vertex) for vertex in range(one.size)}
    edges = {edge for edge in edges_of(one, named) if ("one", gone) not in edge}
    edges |= edges_of(other, {vertex: ("other", vertex) for vertex in range(other.size)})
    edges |= across([("one", vertex) for vertex in range(one.size) if one.has(vertex, gone)], come)
    numbers = {name: place for place, name in enumerate(stay + come)}
    return PlainGraph(len(numbers), {frozenset(numbers[name] for name in edge) for edge in edges})


def is_shared_plainly(one, other, shared):
    if shared.__class__ is not tuple or shared == ():
        return False
    for pair in shared:
        if pair.__class__ is not tuple or len(pair) != 2:
            return False
        if not is_plain_number(pair[0], one.size - 1) or not is_plain_number(pair[1], other.size - 1):
            return False
    firsts, seconds = [pair[0] for pair in shared], [pair[1] for pair in shared]
    if firsts != sorted(set(firsts)) or len(set(seconds)) < len(seconds):
        return False
    return one.clique(firsts) and other.clique(seconds)


def glue_plainly(node, one, other):
    shared = node[3]
    if not is_shared_plainly(one, other, shared):
        raise Wrong(node)
    names = {second: first for first, second in shared}
    count = one.size
    for vertex in range(other.size):
        if vertex not in names:
            names[vertex] = count
            count += 1
    return PlainGraph(count, one.edges | edges_of(other, names))


def complement_plainly(one):
    every = across(range(one.size), range(one.size)) - {frozenset((vertex,)) for vertex in range(one.size)}
    return PlainGraph(one.size, every - one.edges)


def plain_graph(node):
    """The PlainGraph of a value of any kind, or Wrong with the first node that is none."""
    if node.__class__ is not tuple or not node or node[0].__class__ is not str or node[0] not in LENGTHS:
        raise Wrong(node)
    if len(node) != LENGTHS[node[0]]:
        raise Wrong(node)
    return assembled(node, [plain_graph(node[place]) for place in WITHIN[node[0]]])


def assembled(node, parts):
    """The PlainGraph of a node of a right form, given those of the nodes within."""
    word = node[0]
    if word == "graph":
        if not leaf_is_right(node[1], node[2]):
            raise Wrong(node)
        return PlainGraph(node[1], {frozenset(edge) for edge in node[2]})
    if word == "complement":
        return complement_plainly(parts[0])
    one, other = parts
    if word == "put":
        return put_plainly(node, one, other)
    if word == "glue":
        return glue_plainly(node, one, other)
    moved = {vertex: vertex + one.size for vertex in range(other.size)}
    edges = one.edges | edges_of(other, moved)
    if word == "join":
        edges = edges | across(range(one.size), moved.values())
    return PlainGraph(one.size + other.size, edges)


def random_clique(dice, graph, most):
    found = []
    for vertex in dice.mixed(range(graph.size)):
        if len(found) < most and graph.clique(found + [vertex]):
            found.append(vertex)
    return found


def random_tree(dice, depth):
    """A right tree of at most this depth, and its PlainGraph."""
    word = dice.pick(("union", "join", "complement", "put", "glue", "put", "glue", "graph"))
    if depth == 0 or word == "graph":
        leaf = dice.pick(LEAVES)
        return leaf, assembled(leaf, [])
    one, first = random_tree(dice, depth - 1)
    if word == "complement":
        return (word, one), complement_plainly(first)
    other, second = random_tree(dice, depth - 1)
    node = (word, one, other)
    if word == "put":
        node = (word, one, dice.below(first.size), other)
    if word == "glue":
        most = 1 + dice.below(4)
        ones, others = random_clique(dice, first, most), random_clique(dice, second, most)
        count = min(len(ones), len(others))
        node = (word, one, other, tuple(zip(sorted(ones[:count]), others[:count])))
    return node, assembled(node, [first, second])


def random_trees(count, depth, most, least=1, seed=0):
    """So many right trees whose graphs have from least to most vertices."""
    dice, out = Dice(seed), []
    while len(out) < count:
        tree, graph = random_tree(dice, depth)
        if least <= graph.size <= most:
            out.append(tree)
    return out


def complements(tree, count):
    """The tree within so many complements."""
    for _ in range(count):
        tree = ("complement", tree)
    return tree


def trees_of_all_words():
    """Small trees with each of the words, some four nodes deep."""
    put = ("put", PATH, 1, APART)
    glue = ("glue", TRIANGLE, RING, ((0, 1), (2, 2)))
    return [LEAF, EDGE, ("union", EDGE, LEAF), ("join", APART, APART), ("complement", PATH), put, glue,
            ("glue", LEAF, TRIANGLE, ((0, 2),)), ("glue", TRIANGLE, TRIANGLE, ((0, 2), (1, 0), (2, 1))),
            ("complement", ("union", put, ("complement", LEAF))), ("put", glue, 4,
                                                                   ("join", LEAF, ("complement", EDGE))),
            ("glue", ("join", ("complement", EDGE), LEAF), ("put", EDGE, 0, EDGE), ((0, 2), (2, 1))),
            ("put", ("glue", ("union", ("complement", APART), LEAF), EDGE, ((2, 1),)), 2, HOUSE)]
