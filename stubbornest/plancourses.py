"""Courses: the answers to the tests that find a table, in the sequence of the tests."""

from stubbornest.knowns import bounds_by, narrowed, widest
from stubbornest.nexttests import number_asked
from stubbornest.refusals import require
from stubbornest.tablekinds import is_known, is_table
from stubbornest.tables import answers_of
from stubbornest.turns import frame_of


def course_behind(frame, bounds, table, uppermost):
    """The answers of the table to the tests from these bounds on, chosen by number_asked."""
    points, sides, rows = frame
    course = []
    number = number_asked(rows, bounds, uppermost)
    while number is not None:
        course.append((points[number], table[number]))
        bounds = narrowed(sides, bounds, number, table[number])
        number = number_asked(rows, bounds, uppermost)
    return tuple(course)


def has_grades(bench, table, answers):
    """Whether the table has all these grades."""
    told = answers_of(bench, table)
    return all([answer in told for answer in answers])


def course_from(bench, known, table):
    """The course of the tests that find the table, from the known on."""
    require(is_known(bench, known), "known")
    require(is_table(bench, table) and has_grades(bench, table, known), "table")
    return course_behind(frame_of(bench), bounds_by(bench, known), table, False)


def plan_course(bench, table):
    """The course of the tests that find the table, with nothing known at first."""
    return course_from(bench, (), table)


def most_of_courses(bench, uppermost, costs):
    """The greatest sum over a course, of all tables, of what the grades of its answers cost."""
    points, sides, rows = frame_of(bench)
    best = 0
    # Each grade from floor to ceiling is that of some table, so these branches are the courses of all tables.
    waiting = [(widest(bench, points), 0)]
    while waiting:
        bounds, cost = waiting.pop()
        best = max(best, cost)
        number = number_asked(rows, bounds, uppermost)
        if number is not None:
            floor, ceiling = bounds
            for grade in range(floor[number], ceiling[number] + 1):
                waiting.append((narrowed(sides, bounds, number, grade), cost + costs[grade]))
    return best


def longest_course(bench):
    """The greatest length of plan_course over all tables."""
    return most_of_courses(bench, False, [1] * (bench[3] + 1))
