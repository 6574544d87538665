"""At most how many tests are needed from a known on."""

from stubbornest.kinds import bits
from stubbornest.knowns import known_bounds
from stubbornest.runs import bench_run
from stubbornest.turns import open_on, rows_of, unsettled_on


def most_on(bounds, row, most, top):
    """The summand of at_most for this row, most being the run of the bench plus two."""
    steps = [bits(min(len(open_on(bounds, row, grade)), most)) for grade in range(1, top + 1)]
    return min(len(unsettled_on(bounds, row)), sum(steps))


def at_most(bench, known):
    """At most how many tests the plan of next_test needs from this known on."""
    bounds = known_bounds(bench, known)
    most = bench_run(bench) + 2
    return sum([most_on(bounds, row, most, bench[3]) for row in rows_of(bench)])
