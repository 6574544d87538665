"""The checker of partings of a log into falling rows."""

from stubbornest.benches import masks_of
from stubbornest.errors import InvalidPaper
from stubbornest.falling import falls_to
from stubbornest.kinds import is_index
from stubbornest.logkinds import is_log
from stubbornest.refusals import require


def lets_falling(bench, log, thing):
    """How many answers are wrong at least, by this parting; InvalidPaper for the first entry that applies."""
    require(is_log(bench, log), "log")
    if not isinstance(thing, tuple):
        raise InvalidPaper("shape", -1)
    masks = masks_of(bench)
    came = {}
    for index, row in enumerate(thing):
        if not isinstance(row, tuple) or not row:
            raise InvalidPaper("falling", index)
        for place, member in enumerate(row):
            check_index(log, came, member, (index, place))
            check_fall(masks, log, row, (index, place))
            came[member] = True
    for index in range(len(log)):
        if index not in came:
            raise InvalidPaper("lacking", index)
    return len(log) - len(thing)


def check_index(log, came, member, at):
    """The entries "index" and "twice"."""
    if not is_index(len(log), member):
        raise InvalidPaper("index", at)
    if member in came:
        raise InvalidPaper("twice", at)


def check_fall(masks, log, row, at):
    """The entry "falls"; the members up to this place are known to be indices."""
    place = at[1]
    if place > 0 and not falls_to(masks, log[row[place - 1]], log[row[place]]):
        raise InvalidPaper("falls", at)
