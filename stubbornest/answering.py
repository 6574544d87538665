"""The answerer of a table, who leaves two tables that fit as long as can be."""

from stubbornest.benchkinds import are_points, is_rule
from stubbornest.lackings import lacking_by, rim_facts
from stubbornest.logs import grades_at
from stubbornest.refusals import require
from stubbornest.stubborn import changed
from stubbornest.tablekinds import is_table
from stubbornest.tables import answers_of


def answerer_of(bench, rule, table):
    """The triple (rule, the table's grades by point, rim_facts), by which the answerer tells; refuses what is none."""
    require(is_rule(bench[3], rule), "rule")
    require(is_table(bench, table), "table")
    return rule, dict(answers_of(bench, table)), rim_facts(bench, table)


def short_points(answerer, log):
    """The set of the points that lack behind this log."""
    rule, _, facts = answerer
    return tuple([point for point, _ in lacking_by(rule, facts, log)])


def tells_other(answerer, log, point):
    """Whether the answerer tells the other grade of this point of the rim."""
    rule, _, facts = answerer
    word, wrongs = rule
    own, other, rises = facts[point]
    grades = grades_at(log, point)
    if grades.count(other) >= wrongs:
        return False
    if word == "low":
        return not rises
    if word == "yes":
        return not any([fact[2] for fact in facts.values()]) and short_points(answerer, log) == (point,)
    if grades.count(own) != wrongs:
        return False
    return word == "each" or short_points(answerer, log) == (point,)


def grade_told(answerer, log, point):
    """The grade that the answerer tells at the point behind this log."""
    _, grades, facts = answerer
    if point in facts and tells_other(answerer, log, point):
        return facts[point][1]
    return grades[point]


def pair_left(bench, answerer, log):
    """What two_left returns for the points of this log of the answerer."""
    short = short_points(answerer, log)
    if not short:
        return None
    table = tuple(answerer[1].values())
    return tuple(sorted([table, changed(bench, table, short[0])]))


def told_log(bench, answerer, points):
    """The log of the answers to tests of these points; refuses what is no sequence of points."""
    require(are_points(bench, points), "points")
    log = ()
    for point in points:
        log = log + ((point, grade_told(answerer, log, point)),)
    return log


def answers_to(bench, rule, table, points):
    """The log of the answers of the answerer to tests of these points, one by one."""
    return told_log(bench, answerer_of(bench, rule, table), points)


def two_left(bench, rule, table, points):
    """Two tables that fit the answers to tests of these points, the stated one among them; None if no point lacks."""
    answerer = answerer_of(bench, rule, table)
    return pair_left(bench, answerer, told_log(bench, answerer, points))
