"""Charts and benches upside down."""

from stubbornest.benches import height
from stubbornest.charts import uppers_of


def turned_chart(chart):
    """The chart upside down, with the same levels."""
    return uppers_of(chart), tuple(sorted([row[::-1] for row in chart[1]]))


def turned(bench):
    """The bench with all charts and its range upside down."""
    charts, low, high, top = bench
    most = height(bench)
    return tuple([turned_chart(chart) for chart in charts]), most - high, most - low, top
