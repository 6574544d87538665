"""What a table tells in the tests of follow, with some grades told instead of its own."""

from stubbornest.following import first_stand, follow, plan_of, stand_behind
from stubbornest.kinds import are_ascending, is_index, is_number
from stubbornest.refusals import require
from stubbornest.tablekinds import is_table


def is_wrong(top, thing):
    """Whether the thing is a pair of a number and a grade."""
    return isinstance(thing, tuple) and len(thing) == 2 and is_number(thing[0]) and is_index(top + 1, thing[1])


def are_wrongs(top, thing):
    """Whether the thing is a tuple of pairs of a number and a grade with growing numbers."""
    if not isinstance(thing, tuple) or not all([is_wrong(top, pair) for pair in thing]):
        return False
    return are_ascending([number for number, _ in thing])


def told_grades(bench, rule, table, wrongs):
    """The grades told until nothing is asked any more."""
    plan = plan_of(bench, rule)
    require(is_table(bench, table), "table")
    require(are_wrongs(bench[3], wrongs), "wrongs")
    instead = dict(wrongs)
    stand = first_stand(bench, plan)
    grades = []
    while stand[3] is not None:
        grade = instead.get(len(grades), table[stand[3]])
        grades.append(grade)
        stand = stand_behind(plan, stand, grade)
        # The grades of a table that fits are always left, so it does not fit where none is.
        require(stand is not None, "wrongs")
    # For the same reason another one that is settled at the end shows that the table does not fit.
    require(tuple(stand[0][0]) == table, "wrongs")
    return tuple(grades)


def follow_table(bench, rule, table, wrongs):
    """What follow returns for the grades told."""
    return follow(bench, rule, told_grades(bench, rule, table, wrongs))
