"""The checker of partings into rows that go upward."""

from stubbornest.benches import masks_of, points_of
from stubbornest.benchkinds import is_point
from stubbornest.charts import lies_under
from stubbornest.errors import InvalidPaper
from stubbornest.kinds import is_number
from stubbornest.refusals import require


def lets_parting(bench, many, thing):
    """The sum of the lesser of many and each row's size; InvalidPaper for the first entry that applies."""
    require(is_number(many), "many")
    if not isinstance(thing, tuple):
        raise InvalidPaper("shape", -1)
    masks = masks_of(bench)
    came = {}
    for index, row in enumerate(thing):
        if not isinstance(row, tuple) or not row:
            raise InvalidPaper("chain", index)
        for place, member in enumerate(row):
            check_member(bench, came, member, (index, place))
            check_step(masks, row, (index, place))
            came[member] = True
    check_lacking(bench, came)
    return sum([min(many, len(row)) for row in thing])


def check_member(bench, came, member, at):
    """The entries "point" and "twice"."""
    if not is_point(bench, member):
        raise InvalidPaper("point", at)
    if member in came:
        raise InvalidPaper("twice", at)


def check_step(masks, row, at):
    """The entry "step"; the member is known not to be the one before."""
    place = at[1]
    if place >= 1 and not lies_under(masks, row[place - 1], row[place]):
        raise InvalidPaper("step", at)


def check_lacking(bench, came):
    """The entry "lacking"."""
    for number, point in enumerate(points_of(bench)):
        if point not in came:
            raise InvalidPaper("lacking", number)
