"""A desk on which commands change a graph and ask about it."""

from everypart.chordal import elimination_order
from everypart.cliques import clique_number, independence_number
from everypart.cographs import cotree
from everypart.colorings import chromatic_number
from everypart.covers import clique_cover_number
from everypart.errors import InvalidCommand, InvalidGraph, InvalidNumber, NothingToUndo, Undefined, UnknownCommand
from everypart.graphs import Graph
from everypart.graphtexts import write_graph
from everypart.limits import MOST_VERTICES, require_vertices
from everypart.perfect import first_bad_subset, is_perfect
from everypart.splits import split_partition


class Desk:
    """A graph, and the changes that made it."""

    def __init__(self, graph):
        if not isinstance(graph, Graph):
            raise InvalidGraph("graph", 0)
        self.graph = graph
        self.commands = ()
        # The graphs ahead of the changes that are done, and pairs (command, graph behind it) of those undone.
        self._earlier = []
        self._undone = []

    def run(self, command):
        """Do one command and answer what it tells."""
        word, numbers = read_command(command)
        require_own(self.graph, numbers)
        if word in QUESTIONS:
            answer = QUESTIONS[word]
            return answer(self.graph)
        if word == "undo":
            self.undo_change()
        elif word == "redo":
            self.redo_change()
        else:
            change = CHANGES[word]
            self.put_change(command, change(self.graph, numbers))
            self._undone = []
        return write_graph(self.graph).replace("\n", ";")

    def put_change(self, command, graph):
        """Take the graph that the command makes."""
        self._earlier.append(self.graph)
        self.graph = graph
        self.commands = self.commands + (command,)

    def undo_change(self):
        """Take the graph ahead of the last change."""
        if not self.commands:
            raise NothingToUndo("undo")
        self._undone.append((self.commands[-1], self.graph))
        self.graph = self._earlier.pop()
        self.commands = self.commands[:-1]

    def redo_change(self):
        """Do the change that was undone last."""
        if not self._undone:
            raise NothingToUndo("redo")
        command, graph = self._undone.pop()
        self.put_change(command, graph)


def replayed_desk(graph, commands):
    """A desk on which these commands were run."""
    desk = Desk(graph)
    for command in commands:
        desk.run(command)
    return desk


def read_command(command):
    """The first word of a command and the list of its numbers."""
    words = command.split(" ")
    if words[0] not in COUNTS:
        raise UnknownCommand(words[0])
    count = COUNTS[words[0]]
    at = len(words[0]) + 1
    for place, word in enumerate(words[1:]):
        if place >= count or not is_written_number(word):
            raise InvalidCommand(command, at)
        at += len(word) + 1
    if len(words) <= count:
        raise InvalidCommand(command, len(command))
    return words[0], [int(word) for word in words[1:]]


def is_written_number(word):
    """Whether the word is a number of one or two digits as it should be written."""
    return word in [str(number) for number in range(100)]


def require_own(graph, numbers):
    """Raise InvalidNumber with the first of the numbers that is no vertex or has come before."""
    for place, number in enumerate(numbers):
        if number >= graph.size or number in numbers[:place]:
            raise InvalidNumber(number)


def toggled(graph, numbers):
    """The graph with the edge between two vertices taken out or put in."""
    pair = (min(numbers), max(numbers))
    if pair in graph:
        return Graph(graph.size, [edge for edge in graph.edges if edge != pair])
    return Graph(graph.size, sorted(graph.edges + (pair,)))


def twinned(graph, numbers):
    """The graph with a new last vertex joined to a vertex and to its neighbors."""
    require_vertices(graph.size + 1, MOST_VERTICES)
    vertex = numbers[0]
    fresh = [(other, graph.size) for other in graph if other == vertex or (vertex, other) in graph]
    return Graph(graph.size + 1, sorted(graph.edges + tuple(fresh)))


def left_by(graph, numbers):
    """The graph without a vertex."""
    if graph.size == 1:
        raise Undefined("graph")
    return graph.induced(tuple([vertex for vertex in graph if vertex not in numbers]))


def turned(graph, numbers):
    """The complement."""
    return ~graph


def tell_perfect(graph):
    """Whether the graph is perfect."""
    return yes_or_no(is_perfect(graph))


def tell_bad(graph):
    """The first bad subset."""
    subset = first_bad_subset(graph)
    return "none" if subset is None else with_commas(subset)


def tell_numbers(graph):
    """The chromatic, the clique, the independence and the clique cover number."""
    numbers = (chromatic_number(graph), clique_number(graph), independence_number(graph), clique_cover_number(graph))
    return with_commas(numbers)


def tell_chordal(graph):
    """Whether there is an elimination order."""
    return yes_or_no(is_defined(elimination_order, graph))


def tell_cograph(graph):
    """Whether there is a cotree."""
    return yes_or_no(is_defined(cotree, graph))


def tell_split(graph):
    """Whether there is a split partition."""
    return yes_or_no(is_defined(split_partition, graph))


def is_defined(finder, graph):
    """Whether what the function finds is defined for the graph."""
    try:
        finder(graph)
    except Undefined:
        return False
    return True


def yes_or_no(fact):
    """The word for what tells whether."""
    return "yes" if fact else "no"


def with_commas(numbers):
    """The numbers, joined by commas."""
    return ",".join([str(number) for number in numbers])


COUNTS = {"toggle": 2, "twin": 1, "leave": 1, "turn": 0, "perfect": 0, "bad": 0, "numbers": 0, "chordal": 0,
          "cograph": 0, "split": 0, "undo": 0, "redo": 0}
CHANGES = {"toggle": toggled, "twin": twinned, "leave": left_by, "turn": turned}
QUESTIONS = {"perfect": tell_perfect, "bad": tell_bad, "numbers": tell_numbers, "chordal": tell_chordal,
             "cograph": tell_cograph, "split": tell_split}
