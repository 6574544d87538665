"""The grades that are left at a point by the grades told there."""

from stubbornest.benchkinds import is_some_rule
from stubbornest.kinds import is_number
from stubbornest.refusals import require


def are_numbers(thing):
    """Whether the thing is a tuple of numbers."""
    return isinstance(thing, tuple) and all([is_number(member) for member in thing])


def unlike(grades, grade):
    """How many of the grades are another one."""
    return len(grades) - grades.count(grade)


def is_left(rule, still, grades, grade):
    """Whether the grade is left."""
    word, wrongs = rule
    if word == "all":
        return unlike(grades, grade) <= still
    if word == "each":
        return unlike(grades, grade) <= wrongs
    if word == "low":
        return max(grades, default=0) <= grade and unlike(grades, grade) <= wrongs
    return grades.count(0) <= still if grade == 1 else grades.count(1) == 0


def left_grades(rule, still, least, most, grades):
    """The set of the grades from least to most that are left."""
    require(is_some_rule(rule), "rule")
    require(is_number(still), "still")
    require(is_number(least), "least")
    require(is_number(most) and least <= most and (rule[0] != "yes" or most <= 1), "most")
    require(are_numbers(grades), "grades")
    return tuple([grade for grade in range(least, most + 1) if is_left(rule, still, grades, grade)])


def off_by(rule, settled, grades):
    """How many of the grades are taken off the wrong answers that may still come."""
    require(is_some_rule(rule), "rule")
    require(is_number(settled), "settled")
    require(are_numbers(grades), "grades")
    return unlike(grades, settled) if rule[0] in ("all", "yes") else 0
