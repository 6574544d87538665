"""Events read from lines of text."""

from stubbornest.benchkinds import WORDS
from stubbornest.benchreadings import is_numeral, pair_or_none
from stubbornest.errors import InvalidRow, InvalidText
from stubbornest.liveevents import EVENT_WORDS, is_event
from stubbornest.refusals import require


def number_or_none(word):
    """The number that the word tells; None if it is none."""
    return int(word) if is_numeral(word) else None


def point_or_none(word):
    """The point that the word tells; None if it cannot stand as one."""
    if word == "-":
        return ()
    levels = [number_or_none(part) for part in word.split(".")]
    return None if None in levels else tuple(levels)


def value_or_none(kind, word):
    """The first value of an event of this kind that the word tells; None if it cannot stand."""
    if kind == "test":
        return point_or_none(word)
    if kind == "come":
        return pair_or_none(word)
    if kind == "rule":
        return word if word in WORDS else None
    return number_or_none(word)


def field_value(words, field, line):
    """The value that the word with this field tells, in a row of an event."""
    if field == len(words):
        raise InvalidText(line, field)
    value = value_or_none(words[0], words[1]) if field == 1 else number_or_none(words[2])
    if value is None:
        raise InvalidText(line, field)
    return value


def event_of_row(text, line):
    """The event of a row; line is the number of the row that errors tell."""
    words = text.split(" ")
    if words[0] not in EVENT_WORDS:
        raise InvalidText(line, 0)
    event = (words[0], field_value(words, 1, line), field_value(words, 2, line))
    if len(words) > 3:
        raise InvalidText(line, 3)
    if not is_event(event):
        raise InvalidRow(event)
    return event


def read_event(text):
    """The event of a line."""
    require(isinstance(text, str), "text")
    return event_of_row(text, 0)
