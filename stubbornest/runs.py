"""The run of a bench."""

from stubbornest.charts import run_of


def bench_run(bench):
    """The greatest run of the charts, 0 without slots."""
    return max([run_of(chart) for chart in bench[0]], default=0)
