"""The courses of follow without wrong answers, and how many tests it needs at worst."""

from stubbornest.knowns import widest
from stubbornest.plancourses import course_behind, longest_course, most_of_courses
from stubbornest.prices import rule_price, upper_first
from stubbornest.refusals import require
from stubbornest.tablekinds import is_table
from stubbornest.turns import frame_of


def settled_course(bench, rule, table):
    """The answers that join the known of follow, in this sequence, if each grade told is the table's."""
    uppermost = upper_first(bench, rule)
    require(is_table(bench, table), "table")
    frame = frame_of(bench)
    return course_behind(frame, widest(bench, frame[0]), table, uppermost)


def worst_told(bench, rule):
    """How many tests follow needs at worst."""
    uppermost = upper_first(bench, rule)
    word, wrongs = rule
    if word != "yes":
        return rule_price(rule, longest_course(bench))
    return most_of_courses(bench, uppermost, [wrongs + 1, 1])
