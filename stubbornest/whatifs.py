"""What the least number would be behind an event."""

from stubbornest.benchkinds import is_rule
from stubbornest.edits import bench_after
from stubbornest.live import rule_behind
from stubbornest.prices import price_span
from stubbornest.refusals import require


def span_after(bench, rule, event):
    """The pair of the bounds of the least number behind the event."""
    require(is_rule(bench[3], rule), "rule")
    behind = bench_after(bench, event)
    return price_span(behind, rule_behind(rule, event))
