"""The grades that the answers at each point alone leave there, and the least and the greatest table by them."""

from stubbornest.benches import points_of, rank_of, sides_of
from stubbornest.benchkinds import is_point, is_rule
from stubbornest.logkinds import is_log
from stubbornest.logs import grades_at, is_fit
from stubbornest.refusals import require
from stubbornest.settling import left_grades


def left_at(bench, rule, log, point):
    """The set of the grades that the answers at the point leave there."""
    return left_grades(rule, rule[1], 0, bench[3], grades_at(log, point))


def lefts_of(bench, rule, log):
    """The sets of left_at, one for each point."""
    return [left_at(bench, rule, log, point) for point in points_of(bench)]


def numbers_by_rank(bench, points):
    """The numbers of the points, by growing rank."""
    rows = [(rank_of(bench, point), number) for number, point in enumerate(points)]
    return [number for _, number in sorted(rows)]


def least_by(bench, lefts):
    """The least table with a grade of the point's set at each point; None if there is none."""
    points = points_of(bench)
    lowers = sides_of(bench, points)[0]
    table = [0] * len(points)
    for number in numbers_by_rank(bench, points):
        floor = max([table[lower] for lower in lowers[number]], default=0)
        free = [grade for grade in lefts[number] if grade >= floor]
        if not free:
            return None
        table[number] = free[0]
    return tuple(table)


def greatest_by(bench, lefts):
    """The greatest table with a grade of the point's set at each point; None if there is none."""
    points = points_of(bench)
    uppers = sides_of(bench, points)[1]
    table = [0] * len(points)
    for number in reversed(numbers_by_rank(bench, points)):
        ceiling = min([table[upper] for upper in uppers[number]], default=bench[3])
        free = [grade for grade in lefts[number] if grade <= ceiling]
        if not free:
            return None
        table[number] = free[-1]
    return tuple(table)


def grades_left(bench, rule, log, point):
    """The set of the grades that the answers at the point leave there."""
    require(is_rule(bench[3], rule), "rule")
    require(is_log(bench, log), "log")
    require(is_point(bench, point), "point")
    return left_at(bench, rule, log, point)


def least_fit(bench, rule, log):
    """The least of the tables that fit the log; None if none fits."""
    require(is_rule(bench[3], rule) and rule[0] != "all", "rule")
    require(is_log(bench, log), "log")
    return least_fitting(bench, rule, log, lefts_of(bench, rule, log))


def least_fitting(bench, rule, log, lefts):
    """The least table by the sets of grades if it fits the log; the word of the rule is not "all"."""
    table = least_by(bench, lefts)
    # Under "yes" the wrong answers of all points count together: what is greater has no fewer of them.
    if table is None or not is_fit(bench, rule, log, table):
        return None
    return table


def greatest_fit(bench, rule, log):
    """The greatest of the tables that fit the log; None if none fits."""
    require(is_rule(bench[3], rule) and rule[0] in ("each", "low"), "rule")
    require(is_log(bench, log), "log")
    return greatest_by(bench, lefts_of(bench, rule, log))
