"""What is an event, what is a diary."""

from stubbornest.benchkinds import is_chart
from stubbornest.kinds import is_number
from stubbornest.settling import are_numbers

EVENT_WORDS = ("test", "come", "go", "rule", "range")


def is_event(thing):
    """Whether the thing is an event, for whatever bench."""
    if not isinstance(thing, tuple) or len(thing) != 3 or not is_number(thing[2]):
        return False
    word, value = thing[:2]
    if word == "test":
        return are_numbers(value)
    if word == "come":
        return is_chart(value)
    if word == "rule":
        return isinstance(value, str)
    return word in ("go", "range") and is_number(value)


def is_diary(thing):
    """Whether the thing is a tuple of events."""
    return isinstance(thing, tuple) and all([is_event(event) for event in thing])
