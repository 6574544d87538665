"""The checker of papers that settle a table."""

from stubbornest.benches import points_of
from stubbornest.errors import InvalidPaper
from stubbornest.rims import rim_numbers
from stubbornest.tablekinds import is_answer, is_table
from stubbornest.tables import answers_of


def lets_paper(bench, thing):
    """How many answers the paper has; InvalidPaper for the first entry that applies."""
    if not isinstance(thing, tuple) or len(thing) != 2:
        raise InvalidPaper("shape", -1)
    known, table = thing
    if not is_table(bench, table):
        raise InvalidPaper("table", -1)
    if not isinstance(known, tuple):
        raise InvalidPaper("known", -1)
    check_known(bench, known, table)
    check_rim(bench, known, table)
    return len(known)


def check_known(bench, known, table):
    """The entries "answer" and "grade"."""
    grades = dict(answers_of(bench, table))
    for index, answer in enumerate(known):
        if not is_answer(bench, answer) or (index > 0 and answer[0] <= known[index - 1][0]):
            raise InvalidPaper("answer", index)
        if answer[1] != grades[answer[0]]:
            raise InvalidPaper("grade", index)


def check_rim(bench, known, table):
    """The entry "lacking"."""
    points = points_of(bench)
    answered = {point: True for point, _ in known}
    for number in rim_numbers(bench, table):
        if points[number] not in answered:
            raise InvalidPaper("lacking", number)
