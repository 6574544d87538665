"""Benches: height, ranks, what is under what, points and their neighbours."""

from stubbornest.benchkinds import are_charts, is_full, is_point, is_top
from stubbornest.charts import height_of, height_sum, lies_under, rank_sum, ranks_of, under_masks, uppers_of
from stubbornest.refusals import require


def height(bench):
    """The sum of the heights of the charts."""
    return height_sum(bench[0])


def rank_of(bench, point):
    """The rank of a full point."""
    require(is_full(bench, point), "point")
    return rank_sum(bench[0], point)


def how_many_full(bench):
    """How many full points there are."""
    many = 1
    for chart in bench[0]:
        many = many * len(chart[0])
    return many


def masks_of(bench):
    """The masks of lies_under, one for each slot."""
    return tuple([under_masks(chart) for chart in bench[0]])


def is_under(bench, one, other):
    """Whether the full point one is at or below the full point other."""
    require(is_full(bench, one), "one")
    require(is_full(bench, other), "other")
    return lies_under(masks_of(bench), one, other)


def whole(charts, top):
    """The bench of these charts with all ranks."""
    require(are_charts(charts), "charts")
    require(is_top(top), "top")
    return charts, 0, height_sum(charts), top


def all_points(bench):
    """The set of the full points."""
    return points_of(whole(bench[0], bench[3]))


def points_of(bench):
    """The set of the points."""
    charts, low, high = bench[:3]
    rest = height(bench)
    rows = [((), 0)]
    for chart in charts:
        rest = rest - height_of(chart)
        steps = list(enumerate(ranks_of(chart)))
        longer = [(point + (level,), rank + more) for point, rank in rows for level, more in steps]
        # A beginning that no point has would only be carried on in vain.
        rows = [(point, rank) for point, rank in longer if low - rest <= rank <= high]
    return tuple([point for point, _ in rows])


def number_of(bench, point):
    """The index of the point among all points, ascending."""
    require(is_point(bench, point), "point")
    return points_of(bench).index(point)


def put_in(point, slot, level):
    """The full point with this level in the slot."""
    return point[:slot] + (level,) + point[slot + 1:]


def neighbours(sides, point):
    """The set of the full points that differ in one slot, where the level is one of its side's."""
    found = []
    for slot, (side, level) in enumerate(zip(sides, point)):
        found.extend([put_in(point, slot, other) for other in side[level]])
    return tuple(sorted(found))


def directly_below(bench, point):
    """The set of the full points directly below."""
    return neighbours([chart[0] for chart in bench[0]], point)


def directly_above(bench, point):
    """The set of the full points directly above."""
    return neighbours([uppers_of(chart) for chart in bench[0]], point)


def lower_points(bench, point):
    """The set of the points of the bench directly below the point."""
    require(is_point(bench, point), "point")
    return tuple([other for other in directly_below(bench, point) if is_point(bench, other)])


def upper_points(bench, point):
    """The set of the points of the bench directly above the point."""
    require(is_point(bench, point), "point")
    return tuple([other for other in directly_above(bench, point) if is_point(bench, other)])


def direct_pairs(bench, points):
    """The pairs of indices of these points of which the first is directly below the second."""
    numbers = {point: number for number, point in enumerate(points)}
    return [
        (numbers[lower], number)
        for number, point in enumerate(points)
        for lower in directly_below(bench, point)
        if lower in numbers
    ]


def sides_of(bench, points):
    """The pair (numbers directly below, numbers directly above), each a list for each of these points."""
    lowers = [[] for _ in points]
    uppers = [[] for _ in points]
    for lower, upper in direct_pairs(bench, points):
        lowers[upper].append(lower)
        uppers[lower].append(upper)
    return lowers, uppers
