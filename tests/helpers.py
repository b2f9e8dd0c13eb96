"""What several tests share: values of all kinds, many graphs, and answers found by plain search."""

from itertools import combinations

from everypart.desk import Desk
from everypart.graphs import Graph
from everypart.posets import Poset
from everypart.shares import Share


class Dice:
    """Numbers without an order to be seen, always the same ones."""

    def __init__(self, seed):
        self.state = seed * 7919 + 12345

    def below(self, count):
        self.state = (self.state * 1103515245 + 12345) % 2 ** 31
        return (self.state >> 8) % count

    def pick(self, values):
        return values[self.below(len(values))]

    def mixed(self, values):
        left, out = list(values), []
        while left:
            out.append(left.pop(self.below(len(left))))
        return out


def nested(value, depth):
    """The value within so many tuples and lists by turns."""
    for level in range(depth):
        value = (value,) if level % 2 else [value]
    return value


def values_of_all_kinds():
    """Values that are no edge, no number below 24 and no tuple of such."""
    graph, share, poset = Graph.path(2), Share(3, 2), Poset(2, ((1, 0),))
    objects = [graph, (graph,), [graph, 0], share, (share,), (share, share), [share], (0, share), poset, (poset, 1),
               [poset], Desk(graph), (Desk(graph),)]
    others = [True, False, None, "", "a", "ab", "0", -1, 24, 10 ** 30, [], [0], [0, 1], (True,), (None,), ("0",), ([],),
              (0, False), (False, 1), (0, True), (0, -1), (-1, 0), (0, 24), ((0, 1),), [(0, 1)], ((0,), (1,)), ((), ()),
              [[0], [1]], nested(0, 10), nested(0, 9), nested((0, 1), 8)]
    return objects + others


def assert_error(test, error, call, **attributes):
    """The call raises just this error, with these attributes (equal, and of the same kind)."""
    with test.assertRaises(error) as caught:
        call()
    test.assertIs(caught.exception.__class__, error)
    for name, value in attributes.items():
        kept = getattr(caught.exception, name)
        test.assertEqual(kept, value)
        test.assertIs(kept.__class__, value.__class__)


def assert_keeps(test, error, name, value, call):
    """The call, with the value, raises just this error, which keeps the value itself."""
    with test.assertRaises(error) as caught:
        call(value)
    test.assertIs(caught.exception.__class__, error)
    test.assertIs(getattr(caught.exception, name), value)


def assert_tuples(test, value):
    """No list is in the value, nor anything but tuples, shares and integers."""
    if isinstance(value, tuple):
        for member in value:
            assert_tuples(test, member)
    elif isinstance(value, Share):
        assert_tuples(test, (value.over, value.under))
    else:
        test.assertIs(value.__class__, int)


def all_pairs(size):
    return list(combinations(range(size), 2))


def all_graphs(size):
    """All graphs with so many vertices."""
    pairs = all_pairs(size)
    for bits in range(2 ** len(pairs)):
        yield Graph(size, [pair for place, pair in enumerate(pairs) if bits >> place & 1])


def graphs_up_to(size):
    for count in range(1, size + 1):
        yield from all_graphs(count)


def some_graphs(size, count):
    """So many graphs of one size, with few edges or many, always the same ones."""
    state = 12345 + size
    for number in range(count):
        density = 25 + number * 50 // count
        edges = []
        for pair in all_pairs(size):
            state = (state * 1103515245 + 12345) % 2 ** 31
            if (state >> 8) % 100 < density:
                edges.append(pair)
        yield Graph(size, edges)


def renumbered(graph, names):
    """The graph with vertex v called names[v]."""
    return Graph(graph.size, sorted(tuple(sorted((names[a], names[b]))) for a, b in graph.edges))


def small_imperfect_graphs():
    """Cycles of five and seven and their complements, renumbered, alone and with vertices beside them."""
    five, seven = Graph.cycle(5), Graph.cycle(7)
    mixed = [renumbered(five, (3, 0, 4, 1, 2)), renumbered(seven, (6, 2, 0, 5, 1, 4, 3)),
             renumbered(~seven, (1, 3, 5, 0, 2, 4, 6))]
    beside = [five + Graph.path(1), Graph.path(2) + five, five * Graph.path(1), Graph.edgeless(2) * five,
              five + Graph.complete(3), seven + Graph.path(1), Graph.path(1) * seven, Graph.path(1) + ~seven]
    return [five, seven, ~seven] + mixed + beside


def nonempty(size):
    """All non-empty subsets in the order of subsets."""
    return [part for count in range(1, size + 1) for part in combinations(range(size), count)]


def joined(graph, one, other):
    return (min(one, other), max(one, other)) in graph.edges


def is_clique_plainly(graph, part):
    return all(joined(graph, a, b) for a, b in combinations(part, 2))


def is_independent_plainly(graph, part):
    return not any(joined(graph, a, b) for a, b in combinations(part, 2))


def largest_plainly(graph, whole, judge):
    """The size of the greatest part of whole of which judge holds."""
    for count in range(len(whole), 0, -1):
        if any(judge(graph, part) for part in combinations(whole, count)):
            return count
    return 0


def can_color(graph, whole, colors, given=()):
    """Whether the vertices of whole can get so many colors, the first ones having the given ones."""
    if len(given) == len(whole):
        return True
    for color in range(min(colors, max(given, default=-1) + 2)):
        clash = any(number == color and joined(graph, whole[place], whole[len(given)])
                    for place, number in enumerate(given))
        if not clash and can_color(graph, whole, colors, given + (color,)):
            return True
    return False


def fewest_colors(graph, whole):
    count = 0
    while not can_color(graph, whole, count):
        count += 1
    return count


def bad_plainly(graph):
    """All bad subsets, in the order of subsets."""
    return [part for part in nonempty(graph.size)
            if fewest_colors(graph, part) > largest_plainly(graph, part, is_clique_plainly)]


def is_plain_subset(value, size):
    """Whether a value of any kind is a subset."""
    if value.__class__ is not tuple or any(member.__class__ is not int for member in value):
        return False
    return list(value) == sorted(set(value)) and all(0 <= member < size for member in value)


def variants(value):
    """The value with one place changed, in many ways."""
    if isinstance(value, str):
        yield from ("", value + "s", value.upper(), "union", "join", "put", "graph", None, 0, True, (value,), [value])
        return
    if isinstance(value, Share):
        for over, under in ((1, 1), (-1, 1), (1, 2), (-1, 2), (0, 1), (1, 10 ** 40)):
            yield value + Share(over, under)
        yield from (value - value, value - value - value, value.over, (value.over, value.under), [value], (value,),
                    None, True, str(value.over))
        return
    if not isinstance(value, tuple):
        yield from (value + 1, value - 1, bool(value), str(value), None, (value,), [value])
        return
    yield from (list(value), value + (None,), value + ((),), (value,), None, len(value))
    for place in range(len(value)):
        ahead, behind = value[:place], value[place + 1:]
        yield ahead + behind
        yield ahead + (value[place],) + (value[place],) + behind
        for other in range(place):
            swapped = list(value)
            swapped[place], swapped[other] = swapped[other], swapped[place]
            yield tuple(swapped)
        for changed in variants(value[place]):
            yield ahead + (changed,) + behind


def exchanged(value, others):
    """The value with one place, at any depth, exchanged for each of the others."""
    yield from others
    if isinstance(value, tuple):
        for place, member in enumerate(value):
            for changed in exchanged(member, others):
                yield value[:place] + (changed,) + value[place + 1:]


def is_plain_number(value, most):
    return value.__class__ is int and 0 <= value <= most


def is_weights_plainly(graph, value):
    if value.__class__ is not tuple or len(value) != graph.size:
        return False
    return all(is_plain_number(weight, 40) for weight in value)


def independent_sets(graph):
    """All independent sets but the empty one, in the order of subsets."""
    return [part for part in nonempty(graph.size) if is_independent_plainly(graph, part)]


def weigh(part, weights):
    return sum(weights[vertex] for vertex in part)


def heaviest_plainly(graph, weights):
    """The greatest weight of a clique, by plain search."""
    return max([0] + [weigh(part, weights) for part in nonempty(graph.size) if is_clique_plainly(graph, part)])


def is_cover_plainly(graph, weights, cover):
    """Whether a value of any kind is a cover of right weights."""
    if cover.__class__ is not tuple:
        return False
    totals = [0] * graph.size
    before = None
    for pair in cover:
        if pair.__class__ is not tuple or len(pair) != 2 or not is_plain_subset(pair[0], graph.size):
            return False
        if pair[0] == () or not is_independent_plainly(graph, pair[0]):
            return False
        if pair[1].__class__ is not int or pair[1] < 1 or (before is not None and pair[0] <= before):
            return False
        before = pair[0]
        for vertex in pair[0]:
            totals[vertex] += pair[1]
    return totals == list(weights)


def pieces_plainly(graph, whole):
    """The connected pieces of an induced graph, ascending by their least vertices."""
    left, out = list(whole), []
    while left:
        piece = [left[0]]
        for vertex in piece:
            piece.extend(other for other in left if joined(graph, vertex, other) and other not in piece)
        out.append(tuple(sorted(piece)))
        left = [vertex for vertex in left if vertex not in piece]
    return out


def graphs_in_pieces():
    """Larger graphs in several pieces, with vertices alone, renumbered too."""
    beside = Graph.path(1) + Graph.cycle(5) + Graph.path(1) + Graph.complete(4) + Graph.cycle(6) + Graph.path(3)
    mixed = [renumbered(beside, tuple(Dice(seed).mixed(range(beside.size)))) for seed in range(3)]
    return [beside] + mixed + [Graph.edgeless(24), Graph.path(1) + Graph.path(1) + Graph.path(22),
                               Graph.cycle(24), Graph.cycle(3) + Graph.cycle(21), Graph.complete(24),
                               Graph.cycle(11) + Graph.path(2) + Graph.edgeless(11)]


def is_simplicial_plainly(graph, vertex, left):
    return is_clique_plainly(graph, [other for other in left if joined(graph, vertex, other)])


def order_plainly(graph):
    """The order of least simplicial vertices, or None."""
    left, order = list(graph), []
    while left:
        found = [vertex for vertex in left if is_simplicial_plainly(graph, vertex, left)]
        if not found:
            return None
        order.append(min(found))
        left.remove(min(found))
    return tuple(order)


def chordal_graphs():
    """Chordal graphs of 24 vertices: each vertex is joined to a clique of those ahead of it, then all renumbered."""
    for seed in range(12):
        dice = Dice(seed)
        edges = []
        for vertex in range(1, 24):
            clique = []
            for other in dice.mixed(range(vertex)):
                if len(clique) < seed and all((min(other, one), max(other, one)) in edges for one in clique):
                    clique.append(other)
            edges.extend((other, vertex) for other in clique)
        yield renumbered(Graph(24, sorted(edges)), tuple(dice.mixed(range(24))))
