"""Papers of courses."""

from stubbornest.plancourses import plan_course


def course_paper(bench, table):
    """The pair of the course that finds the table, and the table."""
    return plan_course(bench, table), table
