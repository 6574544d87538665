"""How many points each grade is open at, on a chain."""

from stubbornest.knowns import known_bounds
from stubbornest.turns import open_on, row_on


def open_counts(bench, known, name):
    """The lengths of the stretches of the grades 1 to top on the chain with this name."""
    bounds = known_bounds(bench, known)
    row = row_on(bench, name)
    return tuple([len(open_on(bounds, row, grade)) for grade in range(1, bench[3] + 1)])
