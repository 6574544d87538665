"""What an event makes of a bench and a log, and why it may be barred."""

from stubbornest.benches import height
from stubbornest.benchkinds import is_point, is_rule
from stubbornest.changes import cut_to, face_of, grown
from stubbornest.errors import InvalidEvent, NotUsable
from stubbornest.liveevents import is_event
from stubbornest.logkinds import is_log
from stubbornest.refusals import require


def reason_by(bench, event):
    """The first reason for which the bench bars the event; None if there is none."""
    if not is_event(event):
        return "form"
    word, one, other = event
    if word == "test":
        return answer_reason(bench, one, other)
    if word == "come":
        return None if other < len(one[0]) else "level"
    if word == "go":
        return go_reason(bench, one, other)
    if word == "rule":
        return None if is_rule(bench[3], (one, other)) else "rule"
    return None if one <= other <= height(bench) else "range"


def answer_reason(bench, point, grade):
    """The reason for which a "test" is barred."""
    if not is_point(bench, point):
        return "point"
    return None if grade <= bench[3] else "grade"


def go_reason(bench, slot, level):
    """The reason for which a "go" is barred."""
    if slot >= len(bench[0]):
        return "slot"
    try:
        face_of(bench, slot, level)
    except NotUsable:
        return "level"
    return None


def require_event(bench, event):
    """Refuses an event that the bench bars."""
    reason = reason_by(bench, event)
    if reason is not None:
        raise InvalidEvent(event, reason)


def bench_behind(bench, event):
    """The bench behind an event that it does not bar."""
    word, one, other = event
    if word == "come":
        return grown(bench, one)
    if word == "go":
        return face_of(bench, one, other)
    return cut_to(bench, one, other) if word == "range" else bench


def log_behind(bench, log, event):
    """The log behind an event that the bench does not bar."""
    word, one, other = event
    if word == "test":
        return log + ((one, other),)
    if word == "come":
        return tuple([(point + (other,), grade) for point, grade in log])
    if word == "go":
        return tuple([(point[:one] + point[one + 1:], grade) for point, grade in log if point[one] == other])
    if word == "range":
        cut = cut_to(bench, one, other)
        return tuple([answer for answer in log if is_point(cut, answer[0])])
    return log


def bench_after(bench, event):
    """The bench behind the event."""
    require_event(bench, event)
    return bench_behind(bench, event)


def log_after(bench, log, event):
    """The log behind the event."""
    require(is_log(bench, log), "log")
    require_event(bench, event)
    return log_behind(bench, log, event)
