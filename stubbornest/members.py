"""The members of a chain, and the neighbours of a full point on its chain."""

from stubbornest.benches import height
from stubbornest.kinds import is_index
from stubbornest.refusals import require
from stubbornest.walks import chain_of, is_name, last_behind, size_of


def steps_of(bench, name):
    """The triple (chain of the chart, last place ahead, hook) of each slot, for full_at."""
    steps = []
    last = 0
    for chart, part in zip(bench[0], name):
        index, hook = part
        steps.append((chart[1][index], last, hook))
        last = last_behind(chart, last, part)
    return steps


def full_at(steps, place):
    """The full point at this place, found by the walk backwards."""
    levels = []
    at = place
    for row, last, hook in reversed(steps):
        # Up to the bend the slots ahead rise and this level stays at its hook; behind it this level rises.
        bend = last - hook
        levels.append(row[hook + max(0, at - bend)])
        at = min(at, bend)
    return tuple(levels[::-1])


def member_at(bench, name, place):
    """The full point at a place of the chain."""
    require(is_index(size_of(bench, name), place), "place")
    return full_at(steps_of(bench, name), place)


def members_of(bench, name):
    """The tuple of all members, upward."""
    require(is_name(bench, name), "name")
    steps = steps_of(bench, name)
    return tuple([full_at(steps, place) for place in range(size_of(bench, name))])


def span_within(bench, size):
    """The pair of within for every chain of this size."""
    low, high = bench[1:3]
    first = (height(bench) + 1 - size) // 2
    least = max(low, first)
    greatest = min(high, first + size - 1)
    if least > greatest:
        return 0, 0
    return least - first, greatest - least + 1


def within(bench, name):
    """The pair (place of the first member that is a point of the bench, how many are)."""
    return span_within(bench, size_of(bench, name))


def next_up(bench, point):
    """The full point next above on the chain, None for the last member."""
    name, place = chain_of(bench, point)
    if place + 1 == size_of(bench, name):
        return None
    return member_at(bench, name, place + 1)


def next_down(bench, point):
    """The full point next below on the chain, None for the member at place 0."""
    name, place = chain_of(bench, point)
    if place == 0:
        return None
    return member_at(bench, name, place - 1)
