"""A bench folded into a single chart."""

from stubbornest.benches import all_points, directly_below
from stubbornest.listings import names_of
from stubbornest.members import members_of


def folded(bench):
    """The chart of the full points: the level n is the one with the index n."""
    full = all_points(bench)
    levels = {point: level for level, point in enumerate(full)}
    lowers = [tuple([levels[other] for other in directly_below(bench, point)]) for point in full]
    chains = [tuple([levels[point] for point in members_of(bench, name)]) for name in names_of(bench)]
    return tuple(lowers), tuple(sorted(chains))


def folded_bench(bench):
    """The bench of the folded chart alone, with the same range and top."""
    return ((folded(bench),),) + bench[1:]
