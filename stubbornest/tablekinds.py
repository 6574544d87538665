"""What is a table, an answer, a known of a bench."""

from stubbornest.benches import direct_pairs, masks_of, points_of
from stubbornest.benchkinds import is_point
from stubbornest.charts import lies_under
from stubbornest.kinds import are_ascending, are_indices, is_index


def is_table(bench, thing):
    """Whether the thing is a table of the bench."""
    points = points_of(bench)
    if not are_indices(bench[3] + 1, thing) or len(thing) != len(points):
        return False
    # Between two points of the bench there is a way by direct steps within it, so direct steps are enough.
    return all([thing[lower] <= thing[upper] for lower, upper in direct_pairs(bench, points)])


def is_answer(bench, thing):
    """Whether the thing is an answer of the bench."""
    if not isinstance(thing, tuple) or len(thing) != 2:
        return False
    point, grade = thing
    return is_point(bench, point) and is_index(bench[3] + 1, grade)


def are_answers(bench, thing):
    """Whether the thing is an ascending tuple of answers, at most one for a point."""
    if not isinstance(thing, tuple) or not all([is_answer(bench, answer) for answer in thing]):
        return False
    return are_ascending([point for point, _ in thing])


def is_known(bench, thing):
    """Whether the thing is a known of the bench."""
    if not are_answers(bench, thing):
        return False
    masks = masks_of(bench)
    # Some table has the grades as soon as no two of them fall: its grades are the greatest known ones below.
    return not any([g > h and lies_under(masks, x, y) for x, g in thing for y, h in thing])
