"""Tests in any other sequence."""

from stubbornest.benches import points_of, sides_of
from stubbornest.benchkinds import are_points
from stubbornest.knowns import narrowed, widest
from stubbornest.refusals import require
from stubbornest.tablekinds import is_table


def course_by(bench, table, points):
    """The course that tests these points in this sequence, but for those that are settled already."""
    require(is_table(bench, table), "table")
    require(are_points(bench, points), "points")
    inside = points_of(bench)
    sides = sides_of(bench, inside)
    bounds = widest(bench, inside)
    course = []
    for point in points:
        number = inside.index(point)
        if bounds[0][number] != bounds[1][number]:
            course.append((inside[number], table[number]))
            bounds = narrowed(sides, bounds, number, table[number])
    return tuple(course)


def shown_after(bench, table, points):
    """The least number of these points at which the grades settle all points; None if there is none."""
    require(is_table(bench, table), "table")
    require(are_points(bench, points), "points")
    inside = points_of(bench)
    sides = sides_of(bench, inside)
    bounds = widest(bench, inside)
    for index, point in enumerate(points):
        number = inside.index(point)
        bounds = narrowed(sides, bounds, number, table[number])
        if bounds[0] == bounds[1]:
            return index + 1
    return None
