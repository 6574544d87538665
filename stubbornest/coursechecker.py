"""The checker of courses of anybody."""

from stubbornest.benches import points_of, sides_of
from stubbornest.errors import InvalidPaper
from stubbornest.knowns import narrowed, widest
from stubbornest.tablekinds import is_answer, is_table


def lets_course(bench, thing):
    """How many answers the course has; InvalidPaper for the first entry that applies."""
    if not isinstance(thing, tuple) or len(thing) != 2:
        raise InvalidPaper("shape", -1)
    course, table = thing
    if not is_table(bench, table):
        raise InvalidPaper("table", -1)
    if not isinstance(course, tuple):
        raise InvalidPaper("course", -1)
    floor, ceiling = checked_bounds(bench, course, table)
    for number, (low, high) in enumerate(zip(floor, ceiling)):
        if low != high:
            raise InvalidPaper("open", number)
    return len(course)


def checked_bounds(bench, course, table):
    """The pair (floor, ceiling) behind the course; the entries "answer", "grade" and "idle"."""
    points = points_of(bench)
    sides = sides_of(bench, points)
    bounds = widest(bench, points)
    for index, answer in enumerate(course):
        if not is_answer(bench, answer):
            raise InvalidPaper("answer", index)
        number = points.index(answer[0])
        if answer[1] != table[number]:
            raise InvalidPaper("grade", index)
        if bounds[0][number] == bounds[1][number]:
            raise InvalidPaper("idle", index)
        bounds = narrowed(sides, bounds, number, table[number])
    return bounds
