"""The tables for which as few answers as possible are wrong."""

from stubbornest.falling import all_digits, coupled, fallen_bits, indices_of
from stubbornest.knowns import bounds_by
from stubbornest.logkinds import is_log
from stubbornest.refusals import require
from stubbornest.tables import turned_table
from stubbornest.turning import turned


def reached(rows, behind, ahead):
    """The indices that can be reached from those with none behind them, by going on to where one of them falls.

    From what is reached the way goes on at the one that is coupled ahead of it.
    """
    left = all_digits(len(rows))
    found = {}
    waiting = [index for index in range(len(rows)) if index not in behind]
    while waiting:
        fresh = indices_of(rows[waiting.pop()] & left)
        for index in fresh:
            left = left ^ (1 << index)
            found[index] = True
            waiting.append(ahead[index])
    return found


def last_right(bench, log):
    """The pair (how many answers are wrong, right answers): as many right ones as can be, as far fallen as can be."""
    rows = fallen_bits(bench, log)
    behind, ahead = coupled(rows, all_digits(len(log)))
    found = reached(rows, behind, ahead)
    right = [
        answer
        for index, answer in enumerate(log)
        if index not in found and (index not in behind or behind[index] in found)
    ]
    return len(behind), right


def least_mild(bench, log):
    """The pair of how many answers are wrong for a mild table, and the least mild table."""
    wrong, right = last_right(bench, log)
    # No answer further fallen can be right in a mild table, so none is less than the floor of these.
    return wrong, tuple(bounds_by(bench, right)[0])


def mild_tables(bench, log):
    """The triple of fewest_wrong, the least and the greatest mild table."""
    require(is_log(bench, log), "log")
    wrong, least = least_mild(bench, log)
    other = turned(bench)
    # Upside down each answer falls to those that fell to it, and the greatest table is the least one.
    greatest = least_mild(other, tuple([(point, bench[3] - grade) for point, grade in log]))[1]
    return wrong, least, turned_table(other, greatest)
