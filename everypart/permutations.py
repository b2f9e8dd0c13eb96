"""Orders of the numbers from 0 on: their inversions, piles and falls."""

from everypart.errors import InvalidOrder
from everypart.graphs import Graph
from everypart.kinds import is_order
from everypart.limits import MOST_VERTICES
from everypart.subsets import vertex_pairs


def inversion_graph(order):
    """The graph in which two numbers are joined if the greater one stands ahead of the lesser one."""
    require_order(order)
    pairs = vertex_pairs(tuple(range(len(order))))
    return Graph(len(order), [(one, other) for one, other in pairs if order.index(other) < order.index(one)])


def piles(order):
    """The piles that come about if each number goes to the first pile whose last number is less."""
    require_order(order)
    found = []
    for number in order:
        places = [place for place, pile in enumerate(found) if pile[-1] < number]
        if places:
            found[places[0]].append(number)
        else:
            found.append([number])
    return tuple([tuple(pile) for pile in found])


def longest_fall(order):
    """Some numbers of order, each less than the one before it, as many as possible."""
    require_order(order)
    falls = {}
    for number in order:
        ahead = [fall for last, fall in falls.items() if last > number]
        falls[number] = max([()] + ahead, key=len) + (number,)
    return max(list(falls.values()), key=len)


def require_order(value):
    """Raise InvalidOrder unless value is a tuple of the numbers of some graph's vertices, each once."""
    if not isinstance(value, tuple) or not 1 <= len(value) <= MOST_VERTICES or not is_order(value, len(value)):
        raise InvalidOrder(value)
