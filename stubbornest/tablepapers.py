"""Papers that settle a table, and tables that a set of points does not tell apart."""

from stubbornest.benches import points_of
from stubbornest.benchkinds import is_point_set
from stubbornest.knowns import known_of
from stubbornest.refusals import require
from stubbornest.rims import rim_numbers, rim_of
from stubbornest.stubborn import moved
from stubbornest.tablekinds import is_table


def table_paper(bench, table):
    """The pair of the known of the table's grades at its rim, and the table."""
    return known_of(bench, table, rim_of(bench, table)), table


def second_table(bench, table, points):
    """Another table with the same grades at these points; None if there is none."""
    require(is_table(bench, table), "table")
    require(is_point_set(bench, points), "points")
    inside = points_of(bench)
    for number in rim_numbers(bench, table):
        if inside[number] not in points:
            return moved(bench, table, number)
    return None
