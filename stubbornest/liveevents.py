"""What is an event, what is a diary."""

from stubbornest.benchkinds import is_chart
from stubbornest.kinds import is_number
from stubbornest.settling import are_numbers

EVENT_WORDS = ("test", "come", "go", "rule", "range")


def is_event(thing):
    """Whether the thing is an event, for whatever bench."""
    if not isinstance(thing, tuple) or len(thing) != 3 or not is_number(thing[2]):
        return False
    word, value = thing[:2]
    if not isinstance(word, str) or word not in EVENT_WORDS:
        return False
    if word == "test":
        return are_numbers(value)
    if word == "come":
        return is_chart(value)
    return isinstance(value, str) if word == "rule" else is_number(value)


def is_diary(thing):
    """Whether the thing is a tuple of events."""
    return isinstance(thing, tuple) and all([is_event(event) for event in thing])
