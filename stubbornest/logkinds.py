"""What is a log of a bench."""

from stubbornest.tablekinds import is_answer


def is_log(bench, thing):
    """Whether the thing is a tuple of answers, in any sequence."""
    return isinstance(thing, tuple) and all([is_answer(bench, answer) for answer in thing])
