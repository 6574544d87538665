"""The most stubborn table of a bench, and tables with another grade at one point."""

from stubbornest.benches import number_of
from stubbornest.layers import window_of
from stubbornest.refusals import require
from stubbornest.rims import movable, rim_numbers
from stubbornest.tablekinds import is_table
from stubbornest.tables import rank_table


def stubborn_table(bench):
    """The table whose rim has as many points as the weight says."""
    _, low, high, top = bench
    first = window_of(bench, 2 * top)[0]
    # A rank above the window is at least 2 * top ranks behind its first one, since the window then is a full one.
    grades = [min(top, max(0, (rank - first + 1) // 2)) for rank in range(low, high + 1)]
    return rank_table(bench, tuple(grades))


def moved(bench, table, number):
    """The table with another grade at the point of the rim with this number."""
    rises = movable(bench, table)[0][number]
    grade = table[number] + 1 if rises else table[number] - 1
    return table[:number] + (grade,) + table[number + 1:]


def changed(bench, table, point):
    """The table with another grade at the point of the rim."""
    require(is_table(bench, table), "table")
    number = number_of(bench, point)
    require(number in rim_numbers(bench, table), "point")
    return moved(bench, table, number)
