"""Threshold tables, and tables stacked from them."""

from stubbornest.kinds import is_index
from stubbornest.refusals import require
from stubbornest.tablekinds import is_table


def with_top_one(bench):
    """The bench with the top 1."""
    return bench[:3] + (1,)


def threshold_table(bench, table, grade):
    """The table that has 1 where the grade is reached, else 0."""
    require(is_table(bench, table), "table")
    require(is_index(bench[3] + 1, grade) and grade >= 1, "grade")
    return tuple([int(reached >= grade) for reached in table])


def is_nowhere_greater(one, other):
    """Whether the table one has no greater grade than the other at any point."""
    return all([low <= high for low, high in zip(one, other)])


def are_thresholds(bench, thing):
    """Whether the thing is a tuple of top tables with top 1, none greater anywhere than the one ahead."""
    if not isinstance(thing, tuple) or len(thing) != bench[3]:
        return False
    plain = with_top_one(bench)
    if not all([is_table(plain, table) for table in thing]):
        return False
    return all([is_nowhere_greater(other, one) for one, other in zip(thing, thing[1:])])


def stacked(bench, thresholds):
    """The table whose grade is the sum of the grades of the threshold tables."""
    require(are_thresholds(bench, thresholds), "thresholds")
    return tuple([sum(column) for column in zip(*thresholds)])
