"""The walk over the slots: names of chains, places and sizes."""

from stubbornest.benchkinds import is_full
from stubbornest.charts import places_of
from stubbornest.kinds import is_index
from stubbornest.refusals import require


def tracks_of(bench):
    """The pair (chains, places of the levels) of each slot, for walk."""
    return tuple([(chart[1], places_of(chart)) for chart in bench[0]])


def walk(tracks, point):
    """The triple (name, place, size) of the chain of a full point."""
    name = []
    last = 0
    at = 0
    for (chains, places), level in zip(tracks, point):
        index, place = places[level]
        hook = min(place, last - at)
        at = at + place - hook
        last = last + len(chains[index]) - 1 - 2 * hook
        name.append((index, hook))
    return tuple(name), at, last + 1


def chain_of(bench, point):
    """The pair (name of the chain, place on it) of a full point."""
    require(is_full(bench, point), "point")
    name, place, _ = walk(tracks_of(bench), point)
    return name, place


def next_pairs(chart, last):
    """The pairs (part of a name, last place behind it) that can follow this last place, ascending."""
    return [
        ((index, hook), last + len(row) - 1 - 2 * hook)
        for index, row in enumerate(chart[1])
        for hook in range(min(last + 1, len(row)))
    ]


def can_follow(chart, last, thing):
    """Whether the thing is the part of a name that can follow this last place."""
    if not isinstance(thing, tuple) or len(thing) != 2:
        return False
    chains = chart[1]
    index, hook = thing
    return is_index(len(chains), index) and is_index(min(last + 1, len(chains[index])), hook)


def is_name(bench, thing):
    """Whether the thing is the name of a chain."""
    charts = bench[0]
    if not isinstance(thing, tuple) or len(thing) != len(charts):
        return False
    last = 0
    for chart, part in zip(charts, thing):
        if not can_follow(chart, last, part):
            return False
        last = last_behind(chart, last, part)
    return True


def last_behind(chart, last, part):
    """The last place behind this part of a name."""
    index, hook = part
    return last + len(chart[1][index]) - 1 - 2 * hook


def size_of(bench, name):
    """The size of the chain with this name."""
    require(is_name(bench, name), "name")
    last = 0
    for chart, part in zip(bench[0], name):
        last = last_behind(chart, last, part)
    return last + 1
