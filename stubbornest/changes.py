"""Benches made from a bench: other sequence, range, slots."""

from stubbornest.benches import height
from stubbornest.benchkinds import is_chart
from stubbornest.charts import height_of, height_sum, ranks_of
from stubbornest.kinds import are_indices, is_index
from stubbornest.refusals import require
from stubbornest.shapes import flat


def reordered(bench, order):
    """The bench whose slot i is the slot order[i] of the given one."""
    charts, low, high, top = bench
    many = len(charts)
    require(are_indices(many, order) and sorted(order) == list(range(many)), "order")
    return tuple([charts[slot] for slot in order]), low, high, top


def cut_to(bench, low, high):
    """The bench with another range of ranks."""
    require(is_index(height(bench) + 1, low), "low")
    require(is_index(height(bench) + 1, high) and low <= high, "high")
    return bench[0], low, high, bench[3]


def grown(bench, chart):
    """The bench with the chart as its last slot."""
    require(is_chart(chart), "chart")
    charts, low, high, top = bench
    return charts + (chart,), low, high + height_of(chart), top


def face_of(bench, slot, level):
    """The bench of the points with this level in the slot, without the slot."""
    charts, low, high, top = bench
    require(is_index(len(charts), slot), "slot")
    require(is_index(len(charts[slot][0]), level), "level")
    rest = charts[:slot] + charts[slot + 1:]
    rank = ranks_of(charts[slot])[level]
    least = max(0, low - rank)
    greatest = min(high - rank, height_sum(rest))
    # Each rank from 0 to the height has a full point: the range is empty exactly if there is no point.
    require(least <= greatest, "level")
    return rest, least, greatest, top


def beside(bench, many):
    """The bench as many times, side by side."""
    charts, low, high, top = bench
    return charts + (flat(many),), low, high, top
