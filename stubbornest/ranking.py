"""Numbers of chains among those of the same size."""

from stubbornest.counts import chain_counts
from stubbornest.kinds import is_index, is_number
from stubbornest.layers import with_slot
from stubbornest.refusals import require
from stubbornest.walks import last_behind, next_pairs, size_of


def rests_of(bench):
    """The layers of the slots from each one on, and of no slots at last."""
    rests = [(1,)]
    for chart in reversed(bench[0]):
        rests.append(with_slot(rests[-1], chart))
    return rests[::-1]


def layer_at(layers, twice):
    """The layer that is half of twice away from the middle, 0 if there is none."""
    place = twice + len(layers) - 1
    if place % 2 == 1 or not is_index(len(layers), place // 2):
        return 0
    return layers[place // 2]


def ways(rest, last, end):
    """How many ends of names lead from one last place to another, by the layers of the slots that are left."""
    # They are the chains of one size in a bench of a ladder up to the last place and of these slots,
    # so many as one layer of it has more than the next outer one; all but two summands cancel.
    return layer_at(rest, end - last) - layer_at(rest, end + last + 2)


def chain_number(bench, name):
    """How many names of chains of the same size are less than the name."""
    end = size_of(bench, name) - 1
    rests = rests_of(bench)
    less = 0
    last = 0
    for slot, (chart, part) in enumerate(zip(bench[0], name)):
        behind = [after for pair, after in next_pairs(chart, last) if pair < part]
        less = less + sum([ways(rests[slot + 1], after, end) for after in behind])
        last = last_behind(chart, last, part)
    return less


def nth_chain(bench, size, number):
    """The name of the chain of this size that has this number."""
    counts = dict(chain_counts(bench))
    require(is_number(size) and size in counts, "size")
    require(is_index(counts[size], number), "number")
    rests = rests_of(bench)
    name = []
    last = 0
    left = number
    for slot, chart in enumerate(bench[0]):
        pair, last, left = part_at(chart, rests[slot + 1], last, size - 1, left)
        name.append(pair)
    return tuple(name)


def part_at(chart, rest, last, end, left):
    """The triple (part of the name, last place behind it, names that begin so and are still to be passed)."""
    pairs = next_pairs(chart, last)
    at = 0
    many = ways(rest, pairs[0][1], end)
    while left >= many:
        left = left - many
        at = at + 1
        many = ways(rest, pairs[at][1], end)
    pair, behind = pairs[at]
    return pair, behind, left
