"""Judging whether the unknown table is a stated one."""

from stubbornest.benchkinds import is_rule
from stubbornest.errors import NotUsable
from stubbornest.kinds import are_indices
from stubbornest.refusals import require
from stubbornest.rims import lowerable, raisable
from stubbornest.settling import left_grades, off_by
from stubbornest.tablekinds import is_table
from stubbornest.tables import answers_of


def judged_answers(bench, table):
    """The table's answers at its rim in the sequence in which they are judged."""
    grades = dict(answers_of(bench, table))
    rising = raisable(bench, table)
    sinking = [point for point in lowerable(bench, table) if point not in rising]
    return [(point, grades[point]) for point in sinking + list(rising)]


def verdict_by(left, answer, is_last):
    """The verdict if these grades are left at the point of this answer; None if there is none yet."""
    if len(left) > 1:
        return None
    if left[0] != answer[1]:
        return False
    return True if is_last else None


def judge(bench, rule, table, grades):
    """The triple (points asked, point asked next, verdict) behind these grades."""
    require(is_rule(bench[3], rule), "rule")
    require(is_table(bench, table), "table")
    require(are_indices(bench[3] + 1, grades), "grades")
    answers = judged_answers(bench, table)
    asked = []
    heard = ()
    still = rule[1]
    at = 0
    verdict = None
    for index, grade in enumerate(grades):
        heard = heard + (grade,)
        left = left_grades(rule, still, 0, bench[3], heard)
        if verdict is not None or not left:
            raise NotUsable("grades", index)
        asked.append(answers[at][0])
        verdict = verdict_by(left, answers[at], at == len(answers) - 1)
        if len(left) == 1:
            still = still - off_by(rule, left[0], heard)
            heard = ()
            at = at + 1
    following = answers[at][0] if verdict is None else None
    return tuple(asked), following, verdict
