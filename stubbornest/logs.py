"""Logs: which answers are wrong for a table, whether it fits, what was told at a point."""

from stubbornest.benchkinds import is_point, is_rule
from stubbornest.logkinds import is_log
from stubbornest.refusals import require
from stubbornest.tablekinds import is_table
from stubbornest.tables import answers_of


def wrong_numbers(bench, log, table):
    """The indices of the answers that are wrong for the table, ascending."""
    grades = dict(answers_of(bench, table))
    return [index for index, (point, grade) in enumerate(log) if grades[point] != grade]


def is_fit(bench, rule, log, table):
    """Whether the table fits the log."""
    word, wrongs = rule
    grades = dict(answers_of(bench, table))
    wrong = [log[index] for index in wrong_numbers(bench, log, table)]
    if word == "low" and any([grade > grades[point] for point, grade in wrong]):
        return False
    if word == "yes" and any([grade == 1 for _, grade in wrong]):
        return False
    if word in ("all", "yes"):
        return len(wrong) <= wrongs
    points = [point for point, _ in wrong]
    return all([points.count(point) <= wrongs for point in points])


def grades_at(log, point):
    """The grades of the answers at the point, in sequence."""
    return tuple([grade for other, grade in log if other == point])


def wrong_in(bench, log, table):
    """The set of the indices of the answers that are wrong for the table."""
    require(is_log(bench, log), "log")
    require(is_table(bench, table), "table")
    return tuple(wrong_numbers(bench, log, table))


def fits(bench, rule, log, table):
    """Whether the table fits the log under the rule."""
    require(is_rule(bench[3], rule), "rule")
    require(is_log(bench, log), "log")
    require(is_table(bench, table), "table")
    return is_fit(bench, rule, log, table)


def counts_at(bench, log, point):
    """How many answers at the point have each grade, from 0 to top."""
    require(is_log(bench, log), "log")
    require(is_point(bench, point), "point")
    grades = grades_at(log, point)
    return tuple([grades.count(grade) for grade in range(bench[3] + 1)])
