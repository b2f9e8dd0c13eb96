"""The errors of the package, each with its arguments as attributes."""


class GraphError(ValueError):
    """What all errors of the package stand under; never raised itself."""


class InvalidNumber(GraphError):
    """The value is not the number that is asked for."""

    def __init__(self, value):
        self.value = value


class InvalidGraph(GraphError):
    """The part of a graph is wrong, first at this place."""

    def __init__(self, part, place):
        self.part = part
        self.place = place


class InvalidSubset(GraphError):
    """The value is not the subset that is asked for."""

    def __init__(self, value):
        self.value = value


class InvalidColoring(GraphError):
    """The value is no tuple of so many colors."""

    def __init__(self, value):
        self.value = value


class InvalidOrder(GraphError):
    """The value is no tuple of all numbers, each once."""

    def __init__(self, value):
        self.value = value


class InvalidWeights(GraphError):
    """The value is not the weights of the graph."""

    def __init__(self, value):
        self.value = value


class InvalidTree(GraphError):
    """The value is no tree."""

    def __init__(self, value):
        self.value = value


class InvalidIntervals(GraphError):
    """The interval at this place is wrong."""

    def __init__(self, place):
        self.place = place


class InvalidText(GraphError):
    """The text is that of no graph; its line that begins at this place is wrong."""

    def __init__(self, text, at):
        self.text = text
        self.at = at


class InvalidCommand(GraphError):
    """The command has a wrong form, first at this place."""

    def __init__(self, command, at):
        self.command = command
        self.at = at


class UnknownCommand(GraphError):
    """No command begins with this word."""

    def __init__(self, word):
        self.word = word


class TooLarge(GraphError):
    """There are too many of what is named."""

    def __init__(self, what):
        self.what = what


class Undefined(GraphError):
    """What is named does not exist."""

    def __init__(self, what):
        self.what = what


class NothingToUndo(GraphError):
    """There is no change that the word could undo or redo."""

    def __init__(self, word):
        self.word = word
