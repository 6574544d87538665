"""Knowns: their floors and ceilings, what they settle, what they leave open."""

from stubbornest.benches import points_of, sides_of
from stubbornest.benchkinds import is_point_set
from stubbornest.kinds import is_index
from stubbornest.refusals import require
from stubbornest.tablekinds import is_known, is_table
from stubbornest.tables import answers_of


def lifted(uppers, floor, number, grade):
    """The floor with at least this grade at the point with this number."""
    out = list(floor)
    waiting = [number]
    while waiting:
        at = waiting.pop()
        # A floor never falls: where it has the grade, it has it above, too.
        if out[at] < grade:
            out[at] = grade
            waiting.extend(uppers[at])
    return out


def sunk(lowers, ceiling, number, grade):
    """The ceiling with at most this grade at the point with this number."""
    out = list(ceiling)
    waiting = [number]
    while waiting:
        at = waiting.pop()
        if out[at] > grade:
            out[at] = grade
            waiting.extend(lowers[at])
    return out


def narrowed(sides, bounds, number, grade):
    """The pair (floor, ceiling) behind one more answer, by sides_of the points."""
    lowers, uppers = sides
    floor, ceiling = bounds
    return lifted(uppers, floor, number, grade), sunk(lowers, ceiling, number, grade)


def widest(bench, points):
    """The pair (floor, ceiling) of the known ()."""
    return [0] * len(points), [bench[3]] * len(points)


def bounds_by(bench, answers):
    """The pair (floor, ceiling) of these answers, as lists."""
    points = points_of(bench)
    sides = sides_of(bench, points)
    bounds = widest(bench, points)
    for point, grade in answers:
        bounds = narrowed(sides, bounds, points.index(point), grade)
    return bounds


def known_bounds(bench, known):
    """The pair (floor, ceiling) of the known; refuses what is none."""
    require(is_known(bench, known), "known")
    return bounds_by(bench, known)


def floor_of(bench, known):
    """The table of the greatest known grades at or below each point."""
    return tuple(known_bounds(bench, known)[0])


def ceiling_of(bench, known):
    """The table of the least known grades at or above each point."""
    return tuple(known_bounds(bench, known)[1])


def unsettled_points(bench, known):
    """The set of the points at which floor and ceiling differ."""
    floor, ceiling = known_bounds(bench, known)
    return tuple([point for point, low, high in zip(points_of(bench), floor, ceiling) if low != high])


def is_threshold(bench, thing):
    """Whether the thing is a grade that is at least 1."""
    return is_index(bench[3] + 1, thing) and thing >= 1


def open_for(bench, known, grade):
    """The set of the points at which the grade is open."""
    floor, ceiling = known_bounds(bench, known)
    require(is_threshold(bench, grade), "grade")
    return tuple([point for point, low, high in zip(points_of(bench), floor, ceiling) if low < grade <= high])


def known_of(bench, table, points):
    """The known of the table's grades at a set of points."""
    require(is_table(bench, table), "table")
    require(is_point_set(bench, points), "points")
    return tuple([(point, grade) for point, grade in answers_of(bench, table) if point in points])
