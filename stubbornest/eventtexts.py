"""Events as lines of text."""

from stubbornest.benchkinds import WORDS
from stubbornest.benchtexts import chart_line
from stubbornest.liveevents import is_event
from stubbornest.refusals import require


def point_text(point):
    """The levels of a point, joined by dots; "-" if there are none."""
    return ".".join([str(level) for level in point]) if point else "-"


def value_text(word, value):
    """The word for the first of the two values of an event with this word."""
    if word == "test":
        return point_text(value)
    if word == "come":
        return chart_line(value)
    return str(value)


def event_line(event):
    """The line of an event."""
    require(is_event(event) and (event[0] != "rule" or event[1] in WORDS), "event")
    word, value, number = event
    return " ".join([word, value_text(word, value), str(number)])
