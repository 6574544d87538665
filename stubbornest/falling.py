"""Answers that fall to other ones: as few wrong answers, and as few falling rows, as can be."""

from stubbornest.benches import masks_of
from stubbornest.charts import lies_under
from stubbornest.logkinds import is_log
from stubbornest.refusals import require
from stubbornest.tablekinds import is_answer


def falls_to(masks, one, other):
    """Whether one answer falls to the other, by masks_of the bench."""
    return one[1] > other[1] and lies_under(masks, one[0], other[0])


def falls(bench, one, other):
    """Whether one answer falls to the other."""
    require(is_answer(bench, one), "one")
    require(is_answer(bench, other), "other")
    return falls_to(masks_of(bench), one, other)


def fallen_bits(bench, log):
    """A number for each answer: its binary digit i is 1 if the answer falls to the one with the index i."""
    masks = masks_of(bench)
    points = sorted(set([point for point, _ in log]))
    uppers = {point: [other for other in points if lies_under(masks, point, other)] for point in points}
    places = {point: [] for point in points}
    for index, (point, grade) in enumerate(log):
        places[point].append((1 << index, grade))
    rows = []
    for point, grade in log:
        rows.append(sum([bit for upper in uppers[point] for bit, lesser in places[upper] if lesser < grade]))
    return rows


def indices_of(digits):
    """The indices of the binary digits that are 1."""
    indices = []
    while digits:
        last = digits & -digits
        indices.append(last.bit_length() - 1)
        digits = digits ^ last
    return indices


def all_digits(many):
    """The number whose first digits, so many, are 1."""
    return (1 << many) - 1


def coupled(rows, kept):
    """The pair (behind, ahead) of a coupling of as many as possible, among the indices in the digits kept.

    Each index is coupled with at most one to which it falls, and at most one that falls to it: two dicts.
    """
    behind = {}
    ahead = {}
    for start in indices_of(kept):
        couple_from(rows, kept, behind, ahead, start)
    return behind, ahead


def couple_from(rows, kept, behind, ahead, start):
    """Couples one index more, if other ones can make room for it."""
    came = {}
    waiting = [start]
    while waiting:
        one = waiting.pop()
        fresh = indices_of(rows[one] & kept)
        for other in fresh:
            came[other] = one
            kept = kept ^ (1 << other)
            if other not in ahead:
                swap_back(behind, ahead, came, other)
                return
            waiting.append(ahead[other])


def swap_back(behind, ahead, came, last):
    """Couples each index on the way to the last one with what was reached from it."""
    other = last
    while other is not None:
        one = came[other]
        following = behind.get(one)
        behind[one] = other
        ahead[other] = one
        other = following


def fewest_wrong(bench, log):
    """The least number of answers that are wrong, over all tables."""
    require(is_log(bench, log), "log")
    return fewest_in(bench, log)


def fewest_in(bench, log):
    """The same for a log."""
    # As many are right together as there are rows at least, which are all answers but for the couples.
    return len(coupled(fallen_bits(bench, log), all_digits(len(log)))[0])


def falling_rows(bench, log):
    """Falling rows, as few as possible, that together have each index of the log once."""
    require(is_log(bench, log), "log")
    behind, ahead = coupled(fallen_bits(bench, log), all_digits(len(log)))
    rows = []
    for index in range(len(log)):
        if index not in ahead:
            row = [index]
            while row[-1] in behind:
                row.append(behind[row[-1]])
            rows.append(tuple(row))
    return tuple(rows)
