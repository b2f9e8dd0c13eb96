"""Which kind a value of any kind is."""


def is_integer(value):
    """Whether value is an integer (a bool is none)."""
    return isinstance(value, int) and not isinstance(value, bool)


def is_between(value, least, greatest):
    """Whether value is an integer from least to greatest."""
    return is_integer(value) and least <= value <= greatest


def is_sequence(value):
    """Whether value is a list or a tuple."""
    return isinstance(value, (list, tuple))


def is_pair(value):
    """Whether value is a tuple of two."""
    return isinstance(value, tuple) and len(value) == 2


def is_ascending(values):
    """Whether each of a sequence of like values is above the one before it."""
    return all([before < behind for before, behind in zip(values, values[1:])])


def is_order(value, size):
    """Whether value is a tuple of the numbers from 0 to size - 1, each once."""
    if not isinstance(value, tuple) or not all([is_integer(number) for number in value]):
        return False
    return sorted(value) == list(range(size))


def first_fault(values, are_right):
    """The place of the first of values that is not right or not above the one ahead of it, or None."""
    for place, value in enumerate(values):
        if not are_right[place] or (place > 0 and value <= values[place - 1]):
            return place
    return None
