"""Asking each point until one grade is left there."""

from stubbornest.errors import NotUsable
from stubbornest.kinds import are_indices
from stubbornest.knowns import narrowed, widest
from stubbornest.nexttests import number_asked, point_asked
from stubbornest.prices import upper_first
from stubbornest.refusals import require
from stubbornest.settling import left_grades, off_by
from stubbornest.turns import frame_of


def next_under(bench, rule, known):
    """The point that is tested next under the rule; None if all points are settled."""
    return point_asked(bench, known, upper_first(bench, rule))


def plan_of(bench, rule):
    """The triple (rule, frame of the bench, whether uppermost points are asked), by which tests are chosen."""
    return rule, frame_of(bench), upper_first(bench, rule)


def stand_by(plan, bounds, known, still):
    """The quintuple (bounds, known, still, number of the point asked, grades heard there so far)."""
    _, frame, uppermost = plan
    return bounds, known, still, number_asked(frame[2], bounds, uppermost), ()


def first_stand(bench, plan):
    """The stand ahead of all answers."""
    rule, frame, _ = plan
    return stand_by(plan, widest(bench, frame[0]), (), rule[1])


def stand_behind(plan, stand, grade):
    """The stand behind one more grade; None if nothing is asked or no grade would be left."""
    rule, frame, _ = plan
    points, sides, _ = frame
    bounds, known, still, number, heard = stand
    if number is None:
        return None
    grades = heard + (grade,)
    left = left_grades(rule, still, bounds[0][number], bounds[1][number], grades)
    if len(left) != 1:
        return (bounds, known, still, number, grades) if left else None
    settled = left[0]
    more = tuple(sorted(known + ((points[number], settled),)))
    return stand_by(plan, narrowed(sides, bounds, number, settled), more, still - off_by(rule, settled, grades))


def asked_point(plan, stand):
    """The point that is asked; None at the end."""
    number = stand[3]
    return None if number is None else plan[1][0][number]


def follow(bench, rule, grades):
    """The quadruple (points asked, known, still, point asked next) behind these grades."""
    plan = plan_of(bench, rule)
    require(are_indices(bench[3] + 1, grades), "grades")
    stand = first_stand(bench, plan)
    asked = []
    for index, grade in enumerate(grades):
        behind = stand_behind(plan, stand, grade)
        if behind is None:
            raise NotUsable("grades", index)
        asked.append(asked_point(plan, stand))
        stand = behind
    return tuple(asked), stand[1], stand[2], asked_point(plan, stand)
