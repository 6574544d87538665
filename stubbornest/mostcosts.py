"""At most how many tests follow needs from some known on."""

from stubbornest.bounds import at_most
from stubbornest.kinds import is_index
from stubbornest.knowns import known_bounds
from stubbornest.prices import rule_price, upper_first
from stubbornest.refusals import require
from stubbornest.runs import bench_run
from stubbornest.turns import rows_of, unsettled_on


def most_for(bench, rule, known, still):
    """At most how many tests follow needs from this known and this still on."""
    uppermost = upper_first(bench, rule)
    word, wrongs = rule
    bounds = known_bounds(bench, known)
    require(is_index(wrongs + 1, still), "still")
    many = at_most(bench, known)
    if many == 0:
        return 0
    if word == "yes":
        return upper_most(bench, bounds, still) if uppermost else (still + 1) * many
    return rule_price((word, still if word == "all" else wrongs), many)


def upper_most(bench, bounds, still):
    """The same if the uppermost open points come first."""
    most = bench_run(bench) + 2
    counts = [len(unsettled_on(bounds, row)) for row in rows_of(bench)]
    return sum([still + min(most, count) for count in counts if count])
