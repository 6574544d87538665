"""Integers, numbers, sets, and how many binary digits a number has."""

from stubbornest.refusals import require


def is_integer(thing):
    """Whether the thing is an int that is not a bool."""
    return isinstance(thing, int) and not isinstance(thing, bool)


def is_number(thing):
    """Whether the thing is an integer that is at least 0."""
    return is_integer(thing) and thing >= 0


def is_index(size, thing):
    """Whether the thing is a number below the size."""
    return is_number(thing) and thing < size


def are_indices(size, thing):
    """Whether the thing is a tuple of numbers below the size."""
    return isinstance(thing, tuple) and all([is_index(size, member) for member in thing])


def are_ascending(numbers):
    """Whether each of the numbers is greater than the one ahead of it."""
    return all([one < other for one, other in zip(numbers, numbers[1:])])


def is_set(size, thing):
    """Whether the thing is an ascending tuple of numbers below the size."""
    require(is_number(size), "size")
    return are_indices(size, thing) and are_ascending(thing)


def bits(many):
    """How many binary digits the number has; 0 has none."""
    require(is_number(many), "many")
    return many.bit_length()
