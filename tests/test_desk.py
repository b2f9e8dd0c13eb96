"""Promises [32] and [33]: the desk and its commands."""

import re
import unittest

from everypart.chordal import elimination_order
from everypart.cliques import clique_number, independence_number
from everypart.cographs import cotree
from everypart.colorings import chromatic_number
from everypart.covers import clique_cover_number
from everypart.desk import Desk, replayed_desk
from everypart.errors import (GraphError, InvalidCommand, InvalidGraph, InvalidNumber, NothingToUndo, TooLarge,
                              Undefined, UnknownCommand)
from everypart.graphs import Graph
from everypart.perfect import first_bad_subset
from everypart.posets import Poset
from everypart.shares import Share
from everypart.splits import split_partition
from tests.helpers import Dice, all_graphs, assert_error, joined, some_graphs, values_of_all_kinds

COUNTS = {"toggle": 2, "twin": 1, "leave": 1, "turn": 0, "perfect": 0, "bad": 0, "numbers": 0, "chordal": 0,
          "cograph": 0, "split": 0, "undo": 0, "redo": 0}
QUESTIONS = ("perfect", "bad", "numbers", "chordal", "cograph", "split")
WORDS = ("", "0", "1", "2", "7", "9", "10", "23", "24", "99", "100", "00", "01", "+1", "-1", "1.", "a", "\u0661", "1\n",
         "\t", "toggle", "0,1", "1;")


def text_of(graph):
    return ";".join(["graph " + str(graph.size)] + [str(a) + "-" + str(b) for a, b in graph.edges])


def is_defined(call, graph):
    try:
        call(graph)
    except Undefined:
        return "no"
    return "yes"


class PlainDesk:
    """What the document says of a desk, by keeping every change and every undone one with both its graphs."""

    def __init__(self, graph):
        self.graph, self.done, self.undone = graph, [], []

    def answer(self, command):
        """What run answers, or the error that it raises, as the class and the attributes."""
        word = command.partition(" ")[0]
        if word not in COUNTS:
            return UnknownCommand, {"word": word}
        at = wrong_place(command, COUNTS[word])
        if at is not None:
            return InvalidCommand, {"command": command, "at": at}
        numbers = [int(number) for number in command.split(" ")[1:]]
        for place, number in enumerate(numbers):
            if number >= self.graph.size or number in numbers[:place]:
                return InvalidNumber, {"value": number}
        if word in QUESTIONS:
            return self.told(word)
        if word in ("undo", "redo"):
            return self.moved(word)
        return self.changed(command, word, numbers)

    def told(self, word):
        graph = self.graph
        if graph.size > 8 and word not in ("chordal", "cograph"):
            return TooLarge, {"what": "vertices"}
        if word == "numbers":
            calls = (chromatic_number, clique_number, independence_number, clique_cover_number)
            return ",".join(str(call(graph)) for call in calls)
        if word in ("perfect", "bad"):
            subset = first_bad_subset(graph)
            none = "yes" if word == "perfect" else "none"
            return none if subset is None else "no" if word == "perfect" else ",".join(str(vertex) for vertex in subset)
        return is_defined({"chordal": elimination_order, "cograph": cotree, "split": split_partition}[word], graph)

    def moved(self, word):
        ahead, behind = (self.done, self.undone) if word == "undo" else (self.undone, self.done)
        if not ahead:
            return NothingToUndo, {"word": word}
        behind.append(ahead.pop())
        self.graph = behind[-1][1 if word == "undo" else 2]
        return text_of(self.graph)

    def changed(self, command, word, numbers):
        old = self.graph
        if word == "twin" and old.size == 24:
            return TooLarge, {"what": "vertices"}
        if word == "leave" and old.size == 1:
            return Undefined, {"what": "graph"}
        self.graph = changed_graph(old, word, numbers)
        self.done.append((command, old, self.graph))
        self.undone = []
        return text_of(self.graph)

    def commands(self):
        return tuple(command for command, _, _ in self.done)


def changed_graph(graph, word, numbers):
    pairs = [(a, b) for b in graph for a in range(b)]
    if word == "turn":
        return Graph(graph.size, sorted(pair for pair in pairs if not joined(graph, *pair)))
    if word == "toggle":
        return Graph(graph.size, sorted(pair for pair in pairs if joined(graph, *pair) != (set(pair) == set(numbers))))
    if word == "twin":
        fresh = [(a, graph.size) for a in graph if a == numbers[0] or joined(graph, a, numbers[0])]
        return Graph(graph.size + 1, sorted(list(graph.edges) + fresh))
    names = {vertex: vertex - (vertex > numbers[0]) for vertex in graph}
    return Graph(graph.size - 1, [(names[a], names[b]) for a, b in graph.edges if numbers[0] not in (a, b)])


def wrong_place(command, count):
    """The place at which a command with so many numbers is wrong, or None."""
    parts = [(found.start(), found.group()) for found in re.finditer("(?:(?<= )|^)[^ ]*", command)][1:]
    for place, (at, word) in enumerate(parts):
        if place >= count or not re.fullmatch("0|[1-9][0-9]?", word):
            return at
    return len(command) if len(parts) < count else None


def drawn_command(dice, size):
    """Some command, most of them right."""
    changes = ("toggle", "toggle", "toggle", "twin", "leave", "turn", "undo", "undo", "redo", "redo")
    word = dice.pick(changes + QUESTIONS)
    numbers = [str(dice.below(size + 1)) for _ in range(COUNTS[word])]
    if dice.below(12) == 0:
        numbers.insert(dice.below(len(numbers) + 1), dice.pick(WORDS))
    if dice.below(20) == 0:
        numbers = numbers[1:]
    if dice.below(30) == 0:
        word = dice.pick(WORDS + ("Toggle", "leaves", "per", "undo2"))
    return " ".join([word] + numbers)


class DeskTest(unittest.TestCase):

    def check_run(self, desk, plain, command):
        """The answer, or the error, and what the desk has behind it."""
        before = (desk.graph, desk.commands)
        known = plain.answer(command)
        if isinstance(known, str):
            answer = desk.run(command)
            self.assertIs(answer.__class__, str)
            self.assertEqual(answer, known, command)
        else:
            assert_error(self, known[0], lambda: desk.run(command), **known[1])
            self.assertEqual((desk.graph, desk.commands), before)
        self.assertEqual(desk.graph, plain.graph)
        self.assertEqual(desk.commands, plain.commands())
        self.assertIs(desk.commands.__class__, tuple)

    def run_both(self, graph, commands):
        desk, plain = Desk(graph=graph), PlainDesk(graph)
        for command in commands:
            self.check_run(desk, plain, command)
        return desk

    def test_drawn_commands(self):
        for place, graph in enumerate(list(all_graphs(4))[::5] + list(some_graphs(7, 25)) + list(some_graphs(8, 25))):
            dice = Dice(place)
            desk, plain = Desk(graph), PlainDesk(graph)
            for _ in range(40):
                self.check_run(desk, plain, drawn_command(dice, desk.graph.size))

    def test_each_change_undone_and_redone(self):
        for graph in list(all_graphs(3)) + [Graph.cycle(5), Graph.path(8), Graph.cycle(23), Graph.edgeless(1)]:
            for command in ("toggle 0 1", "toggle 2 0", "twin 0", "twin 2", "leave 0", "leave 1", "turn"):
                self.run_both(graph, [command, "undo", "redo", "undo", "undo", "redo", "redo", "undo", command, "redo"])

    def test_examples(self):
        desk = Desk(Graph.cycle(5))
        for command, answer in (
                ("perfect", "no"), ("bad", "0,1,2,3,4"), ("numbers", "3,2,2,3"), ("chordal", "no"), ("cograph", "no"),
                ("split", "no"), ("toggle 2 0", "graph 5;0-1;0-2;0-4;1-2;2-3;3-4"), ("perfect", "yes"), ("bad", "none"),
                ("twin 1", "graph 6;0-1;0-2;0-4;0-5;1-2;1-5;2-3;2-5;3-4"), ("leave 0", "graph 5;0-1;0-4;1-2;1-4;2-3"),
                ("turn", "graph 5;0-2;0-3;1-3;2-4;3-4"), ("undo", "graph 5;0-1;0-4;1-2;1-4;2-3"),
                ("undo", "graph 6;0-1;0-2;0-4;0-5;1-2;1-5;2-3;2-5;3-4"), ("redo", "graph 5;0-1;0-4;1-2;1-4;2-3"),
                ("toggle 1 0", "graph 5;0-4;1-2;1-4;2-3")):
            self.assertEqual(desk.run(command=command), answer)
        self.assertEqual(desk.commands, ("toggle 2 0", "twin 1", "leave 0", "toggle 1 0"))
        self.assertEqual(desk.graph, Graph(5, ((0, 4), (1, 2), (1, 4), (2, 3))))
        assert_error(self, NothingToUndo, lambda: desk.run("redo"), word="redo")

    def test_questions(self):
        graphs = [Graph.path(1), Graph.complete(8), Graph.edgeless(8), Graph.cycle(4), Graph.path(4), Graph.cycle(7),
                  Graph.complete(3) + Graph.path(1), ~Graph.path(4), Graph.edgeless(3) * Graph.path(2)]
        for graph in graphs + list(all_graphs(4))[::3] + list(some_graphs(8, 30)):
            desk = self.run_both(graph, QUESTIONS)
            self.assertEqual((desk.graph, desk.commands), (graph, ()))

    def test_questions_on_more_than_8_vertices(self):
        for graph in (Graph.path(9), Graph.cycle(24), Graph.complete(24)):
            desk = Desk(graph)
            for word in ("perfect", "bad", "numbers", "split"):
                assert_error(self, TooLarge, lambda: desk.run(word), what="vertices")
        self.assertEqual((Desk(Graph.path(9)).run("chordal"), Desk(Graph.path(9)).run("cograph")), ("yes", "no"))
        self.assertEqual((Desk(Graph.cycle(24)).run("chordal"), Desk(~Graph.cycle(24)).run("cograph")), ("no", "no"))
        self.assertEqual(Desk(Graph.complete(24)).run("cograph"), "yes")
        desk = Desk(Graph.path(8))
        self.run_both(Graph.path(8), ["twin 3", "split", "numbers", "undo", "split", "numbers", "redo", "bad",
                                      "leave 8", "bad"])
        self.assertEqual(desk.run("split"), "no")

    def test_undo_and_redo_where_there_is_nothing(self):
        desk = Desk(Graph.path(3))
        assert_error(self, NothingToUndo, lambda: desk.run("undo"), word="undo")
        assert_error(self, NothingToUndo, lambda: desk.run("redo"), word="redo")
        desk.run("turn")
        assert_error(self, NothingToUndo, lambda: desk.run("redo"), word="redo")
        desk.run("undo")
        assert_error(self, NothingToUndo, lambda: desk.run("undo"), word="undo")
        self.assertEqual((desk.graph, desk.commands), (Graph.path(3), ()))
        desk.run("redo")
        assert_error(self, NothingToUndo, lambda: desk.run("redo"), word="redo")
        self.assertEqual((desk.graph, desk.commands), (~Graph.path(3), ("turn",)))

    def test_redo_behind_a_new_change(self):
        desk = self.run_both(Graph.path(4), ["turn", "twin 0", "undo", "undo", "toggle 0 3", "redo", "undo", "redo"])
        self.assertEqual(desk.commands, ("toggle 0 3",))
        # What raises is not run, and what asks or undoes is no change: redo goes on behind them.
        desk = self.run_both(Graph.path(1), ["turn", "twin 0", "undo", "leave 0", "perfect", "toggle 0 1", "nothing",
                                             "twin 1", "redo", "undo", "undo", "undo", "redo", "redo", "redo"])
        self.assertEqual(desk.commands, ("turn", "twin 0"))

    def test_24_vertices_and_one(self):
        desk = Desk(Graph.cycle(23))
        desk.run("twin 0")
        self.assertEqual(desk.graph.edges, tuple(sorted(Graph.cycle(23).edges + ((0, 23), (1, 23), (22, 23)))))
        assert_error(self, TooLarge, lambda: desk.run("twin 23"), what="vertices")
        assert_error(self, InvalidNumber, lambda: desk.run("twin 24"), value=24)
        self.assertEqual((desk.graph.size, desk.commands), (24, ("twin 0",)))
        desk = Desk(Graph.path(2))
        self.assertEqual(desk.run("leave 0"), "graph 1")
        assert_error(self, Undefined, lambda: desk.run("leave 0"), what="graph")
        assert_error(self, InvalidNumber, lambda: desk.run("leave 1"), value=1)
        self.assertEqual((desk.graph, desk.commands), (Graph.path(1), ("leave 0",)))
        self.assertEqual(Desk(Graph.path(1)).run("turn"), "graph 1")

    def test_vertices(self):
        desk = Desk(Graph.path(12))
        for command, value in (("toggle 12 0", 12), ("toggle 0 12", 12), ("toggle 12 13", 12), ("toggle 13 12", 13),
                               ("toggle 3 3", 3), ("toggle 0 0", 0), ("toggle 99 99", 99), ("toggle 11 11", 11),
                               ("twin 12", 12), ("twin 99", 99), ("leave 12", 12), ("leave 24", 24)):
            assert_error(self, InvalidNumber, lambda: desk.run(command), value=value)
        self.assertEqual(desk.run("toggle 11 10"), text_of(Graph(12, Graph.path(12).edges[:-1])))

    def test_what_is_no_graph(self):
        more = [Share(1, 1), Poset(1, ()), Desk(Graph.path(1)), (2, ((0, 1),)), "graph 1"]
        for value in values_of_all_kinds() + more:
            if not isinstance(value, Graph):
                assert_error(self, InvalidGraph, lambda: Desk(value), part="graph", place=0)
                assert_error(self, InvalidGraph, lambda: replayed_desk(value, ()), part="graph", place=0)
                assert_error(self, InvalidGraph, lambda: replayed_desk(value, ("turn", "none")), part="graph", place=0)


class CommandsTest(unittest.TestCase):

    def check(self, command):
        for graph in (Graph.path(3), Graph.path(1), Graph.path(24)):
            desk, plain = Desk(graph), PlainDesk(graph)
            known = plain.answer(command)
            if isinstance(known, str):
                self.assertEqual(desk.run(command), known)
            else:
                assert_error(self, known[0], lambda: desk.run(command), **known[1])
                self.assertEqual((desk.graph, desk.commands), (graph, ()))

    def test_words_of_all_kinds(self):
        for first in list(COUNTS) + ["", "Toggle", "togle", "toggle\t", "undo\n", "none", "0"]:
            self.check(first)
            for one in WORDS:
                self.check(first + " " + one)
                self.check(" " + first + " " + one)
                for other in WORDS:
                    self.check(first + " " + one + " " + other)
                    self.check(first + " " + one + "  " + other)
            for more in (" 0 1 2", " 0 1 ", "  0 1", " 0  1", " 0 1  2", " 0 1 a b", "   ", " 0 1 2 3 4", " 0 1\n",
                         " 0\t1"):
                self.check(first + more)
                self.check("\t" + first + more)

    def test_unknown_words(self):
        desk = Desk(Graph.path(3))
        for command, word in (("", ""), (" ", ""), (" turn", ""), ("Turn", "Turn"), ("turn\n", "turn\n"),
                              ("x y z", "x"), ("turns 1", "turns"), ("toggle\t0\t1", "toggle\t0\t1"),
                              ("undo,redo", "undo,redo")):
            assert_error(self, UnknownCommand, lambda: desk.run(command), word=word)

    def test_places(self):
        desk = Desk(Graph.path(3))
        for command, at in (("toggle", 6), ("toggle ", 7), ("toggle 0", 8), ("toggle 0 ", 9), ("toggle  0 1", 7),
                            ("toggle 0  1", 9), ("toggle 0 1 ", 11), ("toggle 0 1 2", 11), ("toggle 0 1  2", 11),
                            ("toggle 00 1", 7), ("toggle 0 01", 9), ("toggle 0 100", 9), ("toggle 100 1", 7),
                            ("toggle +0 1", 7), ("toggle 0 -1", 9), ("toggle 0,1", 7), ("toggle 12 x", 10),
                            ("toggle 99", 9), ("twin", 4), ("twin 0 1", 7), ("twin a 1", 5), ("leave", 5),
                            ("leave ", 6), ("turn 0", 5), ("turn ", 5), ("turn  ", 5), ("perfect 1", 8), ("undo 1", 5),
                            ("redo ", 5), ("split x y", 6), ("twin \u0661", 5), ("twin 1\n", 5), ("leave 1.", 6),
                            ("toggle  ", 7), ("toggle 0  ", 9)):
            assert_error(self, InvalidCommand, lambda: desk.run(command), command=command, at=at)
            self.assertEqual((desk.graph, desk.commands), (Graph.path(3), ()))

    def test_the_order_of_errors(self):
        large = Desk(Graph.path(24))
        assert_error(self, InvalidCommand, lambda: large.run("twin 24 "), command="twin 24 ", at=8)
        assert_error(self, InvalidCommand, lambda: large.run("toggle 24"), command="toggle 24", at=9)
        assert_error(self, InvalidCommand, lambda: large.run("perfect 0"), command="perfect 0", at=8)
        assert_error(self, InvalidNumber, lambda: large.run("twin 24"), value=24)
        assert_error(self, InvalidCommand, lambda: Desk(Graph.path(1)).run("leave 1 1"), command="leave 1 1", at=8)
        assert_error(self, InvalidNumber, lambda: Desk(Graph.path(1)).run("leave 1"), value=1)
        assert_error(self, InvalidCommand, lambda: Desk(Graph.path(1)).run("undo 1"), command="undo 1", at=5)


class ReplayTest(unittest.TestCase):

    def told(self, desk, command):
        """What a desk answers or raises."""
        try:
            return desk.run(command)
        except GraphError as error:
            return error.__class__, sorted(vars(error).items())

    def test_desk_and_replayed_desk_answer_alike(self):
        words = ("toggle", "twin", "leave", "turn", "undo", "undo") + QUESTIONS
        for place, first in enumerate(list(some_graphs(5, 10)) + list(some_graphs(7, 20)) + [Graph.path(1)] * 5):
            dice = Dice(place)
            desk = Desk(first)
            for _ in range(dice.below(25)):
                self.told(desk, drawn_command(dice, desk.graph.size))
            again = replayed_desk(graph=first, commands=desk.commands)
            self.assertIs(again.__class__, Desk)
            self.assertEqual((again.graph, again.commands), (desk.graph, desk.commands))
            for _ in range(20):
                word = dice.pick(words)
                command = " ".join([word] + [str(dice.below(8)) for _ in range(COUNTS[word] + (dice.below(9) == 0))])
                self.assertEqual(self.told(again, command), self.told(desk, command))
                self.assertEqual((again.graph, again.commands), (desk.graph, desk.commands))

    def test_all_commands_are_run(self):
        commands = ["turn", "twin 0", "undo", "perfect", "redo", "toggle 0 1", "undo"]
        for given in (commands, tuple(commands)):
            desk = replayed_desk(Graph.path(3), given)
            self.assertEqual(desk.commands, ("turn", "twin 0"))
            self.assertEqual(desk.run("redo"), "graph 4;0-1;0-2;0-3;2-3")
        self.assertEqual(commands, ["turn", "twin 0", "undo", "perfect", "redo", "toggle 0 1", "undo"])
        self.assertEqual(replayed_desk(Graph.path(3), ()).commands, ())

    def test_later_changes_to_the_commands(self):
        commands = ["turn", "twin 0"]
        desk = replayed_desk(Graph.path(3), commands)
        commands.append("turn")
        commands[0] = "none"
        self.assertEqual(desk.commands, ("turn", "twin 0"))

    def test_the_first_error(self):
        graph = Graph.path(3)
        for commands, error, attributes in (
                (("turn", "undo", "undo", "x"), NothingToUndo, {"word": "undo"}),
                (("turn", "redo"), NothingToUndo, {"word": "redo"}), (("x", "y z"), UnknownCommand, {"word": "x"}),
                (("turn", "toggle 0", ""), InvalidCommand, {"command": "toggle 0", "at": 8}),
                (["leave 0", "toggle 0 2", "x"], InvalidNumber, {"value": 2}),
                (["leave 0", "leave 0", "leave 0"], Undefined, {"what": "graph"}),
                (["twin 0"] * 22, TooLarge, {"what": "vertices"}),
                (["twin 0"] * 6 + ["bad"], TooLarge, {"what": "vertices"})):
            assert_error(self, error, lambda: replayed_desk(graph, commands), **attributes)
        self.assertEqual(graph, Graph.path(3))

    def test_desks_do_not_change_each_other(self):
        graph = Graph.path(3)
        one, other = Desk(graph), Desk(graph)
        one.run("turn")
        self.assertEqual((other.graph, other.commands, graph), (Graph.path(3), (), Graph.path(3)))
        assert_error(self, NothingToUndo, lambda: other.run("undo"), word="undo")
        kept = one.commands
        one.run("twin 0")
        self.assertEqual(kept, ("turn",))


if __name__ == "__main__":
    unittest.main()
