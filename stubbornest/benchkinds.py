"""What is a chart, a bench, a full point, a point, a rule."""

from stubbornest.chartchecker import lets_chart
from stubbornest.charts import height_sum, rank_sum
from stubbornest.errors import InvalidPaper
from stubbornest.kinds import are_ascending, is_index, is_number
from stubbornest.refusals import require

WORDS = ("all", "each", "low", "yes")


def is_chart(thing):
    """Whether the thing is a chart."""
    try:
        lets_chart(thing)
    except InvalidPaper:
        return False
    return True


def are_charts(thing):
    """Whether the thing is a tuple of charts."""
    return isinstance(thing, tuple) and all([is_chart(chart) for chart in thing])


def is_top(thing):
    """Whether the thing is a number that is at least 1."""
    return is_number(thing) and thing >= 1


def is_bench(thing):
    """Whether the thing is a bench."""
    if not isinstance(thing, tuple) or len(thing) != 4:
        return False
    charts, low, high, top = thing
    if not are_charts(charts) or not is_number(high) or high > height_sum(charts):
        return False
    return is_index(high + 1, low) and is_top(top)


def is_full(bench, thing):
    """Whether the thing is a full point of the bench."""
    charts = bench[0]
    if not isinstance(thing, tuple) or len(thing) != len(charts):
        return False
    return all([is_index(len(chart[0]), level) for chart, level in zip(charts, thing)])


def is_point(bench, thing):
    """Whether the thing is a point of the bench."""
    charts, low, high = bench[:3]
    return is_full(bench, thing) and low <= rank_sum(charts, thing) <= high


def are_points(bench, thing):
    """Whether the thing is a tuple of points of the bench, in any sequence."""
    return isinstance(thing, tuple) and all([is_point(bench, member) for member in thing])


def is_point_set(bench, thing):
    """Whether the thing is a set of points of the bench."""
    return are_points(bench, thing) and are_ascending(thing)


def is_rule(top, thing):
    """Whether the thing is a rule for this top."""
    require(is_top(top), "top")
    if not isinstance(thing, tuple) or len(thing) != 2:
        return False
    word, wrongs = thing
    if not isinstance(word, str) or word not in WORDS or not is_number(wrongs):
        return False
    return word != "yes" or top == 1


def is_some_rule(thing):
    """Whether the thing is a rule for some top."""
    # With the top 1 each of the four words may stand.
    return is_rule(1, thing)
