"""Straight and bent threes of the chains of a bench."""

from stubbornest.benches import put_in
from stubbornest.charts import levels_between, longest_row
from stubbornest.kinds import is_index
from stubbornest.members import full_at, members_of, steps_of
from stubbornest.refusals import require
from stubbornest.walks import size_of, tracks_of, walk


def require_middle(bench, name, place):
    """Refuses a name that is none, and a place that is not that of a middle member."""
    require(is_index(size_of(bench, name) - 1, place) and place >= 1, "place")


def three_at(bench, name, place):
    """The triple of the members around the place."""
    require_middle(bench, name, place)
    steps = steps_of(bench, name)
    return tuple([full_at(steps, at) for at in range(place - 1, place + 2)])


def points_between(bench, first, last):
    """The full points above the first and below the last one, whose rank is greater by two."""
    slots = [slot for slot, (one, other) in enumerate(zip(first, last)) if one != other]
    if len(slots) == 2:
        return [put_in(first, slot, last[slot]) for slot in slots]
    slot = slots[0]
    return [put_in(first, slot, level) for level in levels_between(bench[0][slot], first[slot], last[slot])]


def inner_of(bench, three):
    """The set of the full points between the outer ones of the three, but for the middle one."""
    first, middle, last = three
    return tuple(sorted([point for point in points_between(bench, first, last) if point != middle]))


def partners_among(tracks, inner, size):
    """The set of those inner points that are on a chain of a smaller size."""
    return tuple([point for point in inner if walk(tracks, point)[2] < size])


def inner_points(bench, name, place):
    """The set of the full points above the first and below the third member, but for the middle one."""
    return inner_of(bench, three_at(bench, name, place))


def partners_at(bench, name, place):
    """The set of the partners of the three around the place."""
    return partners_among(tracks_of(bench), inner_points(bench, name, place), size_of(bench, name))


def straight_places(bench, name):
    """The set of the places of the middle members of all straight threes."""
    tracks = tracks_of(bench)
    members = members_of(bench, name)
    size = len(members)
    found = []
    for place in range(1, size - 1):
        inner = inner_of(bench, members[place - 1:place + 2])
        if not partners_among(tracks, inner, size):
            found.append(place)
    return tuple(found)


def run_on(bench, name):
    """The greatest number of successive straight threes on the chain."""
    return longest_row(straight_places(bench, name))
