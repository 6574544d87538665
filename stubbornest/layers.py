"""Layers, windows and spreads."""

from stubbornest.benches import height
from stubbornest.charts import height_of
from stubbornest.kinds import is_number
from stubbornest.refusals import require


def chain_sizes(chart):
    """The pairs (size, how many chains have it)."""
    counts = {}
    for row in chart[1]:
        counts[len(row)] = counts.get(len(row), 0) + 1
    return list(counts.items())


def slid(layers, size):
    """The layers with one chain of this size as a further slot."""
    out = []
    total = 0
    for rank in range(len(layers) + size - 1):
        if rank < len(layers):
            total = total + layers[rank]
        if rank >= size:
            total = total - layers[rank - size]
        out.append(total)
    return out


def with_slot(layers, chart):
    """The layers with the chart as a further slot."""
    tall = height_of(chart)
    out = [0] * (len(layers) + tall)
    # Whole chains are slid along the layers, which is quicker than to add up level by level.
    for size, many in chain_sizes(chart):
        start = (tall + 1 - size) // 2
        for rank, count in enumerate(slid(layers, size)):
            out[start + rank] = out[start + rank] + many * count
    return tuple(out)


def layers_of(bench):
    """How many full points each rank has."""
    layers = (1,)
    for chart in bench[0]:
        layers = with_slot(layers, chart)
    return layers


def how_many(bench):
    """How many points there are."""
    low, high = bench[1:3]
    return sum(layers_of(bench)[low:high + 1])


def window_of(bench, many):
    """The pair (least, greatest) of the many ranks nearest to half the height."""
    require(is_number(many) and many >= 1, "many")
    low, high = bench[1:3]
    size = min(many, high - low + 1)
    # Where all ranks may stand in it the window begins here; of two equally near ones the lower comes first.
    middle = (height(bench) + 1 - size) // 2
    least = max(low, min(middle, high + 1 - size))
    return least, least + size - 1


def spread_of(bench, many):
    """How many points have their rank in the window of many; 0 for 0."""
    require(is_number(many), "many")
    if many == 0:
        return 0
    least, greatest = window_of(bench, many)
    return sum(layers_of(bench)[least:greatest + 1])


def weight_of(bench):
    """The spread of twice the top."""
    return spread_of(bench, 2 * bench[3])
