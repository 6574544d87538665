"""Lists of all chains."""

from stubbornest.members import full_at, steps_of, within
from stubbornest.walks import next_pairs, size_of


def names_of(bench):
    """The set of the names of all chains."""
    rows = [((), 0)]
    for chart in bench[0]:
        rows = [(name + (part,), after) for name, last in rows for part, after in next_pairs(chart, last)]
    return tuple([name for name, _ in rows])


def names_by_size(bench):
    """The names of the chains with a point of the bench, by growing size, those of one size ascending."""
    rows = [(size_of(bench, name), name) for name in names_of(bench) if within(bench, name)[1] > 0]
    return tuple([name for _, name in sorted(rows)])


def points_on(bench, name):
    """The points of the bench on the chain with this name, upward."""
    first, many = within(bench, name)
    steps = steps_of(bench, name)
    return tuple([full_at(steps, place) for place in range(first, first + many)])


def chains_of(bench):
    """Yields the points of the bench on each chain that has one, in the sequence of names_by_size."""
    for name in names_by_size(bench):
        yield points_on(bench, name)
