"""The plan of follow as a tree."""

from stubbornest.following import asked_point, first_stand, plan_of, stand_behind


def plan_tree(bench, rule):
    """The tree of the plan of follow."""
    plan = plan_of(bench, rule)
    return tree_behind(bench, plan, first_stand(bench, plan))


def tree_behind(bench, plan, stand):
    """The tree behind this stand; None if the grades told cannot come."""
    if stand is None:
        return None
    point = asked_point(plan, stand)
    if point is None:
        return "is", tuple(stand[0][0])
    branches = [tree_behind(bench, plan, stand_behind(plan, stand, grade)) for grade in range(bench[3] + 1)]
    return "ask", point, tuple(branches)
