"""Live benches made from their diaries."""

from stubbornest.live import LiveBench
from stubbornest.liveevents import is_diary
from stubbornest.refusals import require


def replayed(bench, rule, diary):
    """A LiveBench that has done the events of the diary."""
    live = LiveBench(bench, rule)
    require(is_diary(diary), "diary")
    live.do_all(diary)
    return live
