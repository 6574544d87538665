"""Lists of the answers at raisable or lowerable points, and the tables that they make."""

from stubbornest.benches import masks_of
from stubbornest.charts import lies_under
from stubbornest.knowns import bounds_by
from stubbornest.refusals import require
from stubbornest.rims import chosen, movable
from stubbornest.tablekinds import are_answers, is_table
from stubbornest.tables import answers_of


def upper_list(bench, table):
    """The answers with the table's grades at all raisable points."""
    require(is_table(bench, table), "table")
    return chosen(answers_of(bench, table), movable(bench, table)[0])


def lower_list(bench, table):
    """The answers with the table's grades at all lowerable points."""
    require(is_table(bench, table), "table")
    return chosen(answers_of(bench, table), movable(bench, table)[1])


def are_growing(bench, answers):
    """Whether of two listed points, one below the other, the lower one has the lesser grade."""
    masks = masks_of(bench)
    return not any([g >= h and x != y and lies_under(masks, x, y) for x, g in answers for y, h in answers])


def is_upper_list(bench, thing):
    """Whether the thing is an upper list."""
    if not are_answers(bench, thing) or not all([grade < bench[3] for _, grade in thing]):
        return False
    return are_growing(bench, thing)


def is_lower_list(bench, thing):
    """Whether the thing is a lower list."""
    if not are_answers(bench, thing) or not all([grade > 0 for _, grade in thing]):
        return False
    return are_growing(bench, thing)


def by_upper(bench, answers):
    """The table of the least listed grades at or above each point."""
    require(is_upper_list(bench, answers), "answers")
    return tuple(bounds_by(bench, answers)[1])


def by_lower(bench, answers):
    """The table of the greatest listed grades at or below each point."""
    require(is_lower_list(bench, answers), "answers")
    return tuple(bounds_by(bench, answers)[0])
