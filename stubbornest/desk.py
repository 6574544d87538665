"""A live bench led by rows of text."""

from stubbornest.errors import InvalidText
from stubbornest.eventreadings import event_of_row
from stubbornest.eventtexts import event_line, point_text
from stubbornest.live import LiveBench
from stubbornest.refusals import require

DESK_WORDS = ("next", "sure", "span", "shown", "undo")


def read_order(text, line):
    """The event of the row, or one of the words of the desk."""
    words = text.split(" ")
    if words[0] not in DESK_WORDS:
        return event_of_row(text, line)
    if len(words) > 1:
        raise InvalidText(line, 1)
    return words[0]


def joined(values):
    """The values as words; "none" for None and ()."""
    return " ".join([str(value) for value in values]) if values else "none"


def done_text(live, event):
    """Does the event and tells so, or why it is barred."""
    reason = live.barred(event)
    if reason is not None:
        return "barred " + reason
    live.do(event)
    return "done"


def undo_text(live):
    """Takes back the last event and tells its line."""
    return event_line(live.undo()) if live.diary() else "none"


def next_text(live):
    """The point that is tested next."""
    point = live.next_now()
    return "none" if point is None else point_text(point)


def sure_text(live):
    """The sure points with their grades."""
    return joined([point_text(point) + ":" + str(grade) for point, grade in live.sure_now()])


def carried_out(live, order):
    """Carries out an order and returns what is told of it."""
    if order == "next":
        return next_text(live)
    if order == "sure":
        return sure_text(live)
    if order == "span":
        return joined(live.span_now())
    if order == "shown":
        return joined(live.shown_now())
    return undo_text(live) if order == "undo" else done_text(live, order)


def desk(live, text):
    """A string for each row of the text, all of which are read ahead of all doing."""
    require(isinstance(live, LiveBench), "live")
    require(isinstance(text, str), "text")
    orders = [read_order(row, line) for line, row in enumerate(text.split("\n"))]
    told = []
    for order in orders:
        told.append(carried_out(live, order))
    return tuple(told)
