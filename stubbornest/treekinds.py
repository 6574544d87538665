"""What is a tree of a bench."""

from stubbornest.benchkinds import is_point
from stubbornest.tablekinds import is_table


def is_tree(bench, thing):
    """Whether the thing is an end or an asking with all its branches."""
    if not isinstance(thing, tuple):
        return False
    if len(thing) == 2:
        return thing[0] == "is" and is_table(bench, thing[1])
    return len(thing) == 3 and thing[0] == "ask" and is_point(bench, thing[1]) and are_branches(bench, thing[2])


def are_branches(bench, thing):
    """Whether the thing is a tuple with a tree or None for each grade."""
    if not isinstance(thing, tuple) or len(thing) != bench[3] + 1:
        return False
    return all([branch is None or is_tree(bench, branch) for branch in thing])
