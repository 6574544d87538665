"""Numbers of tests that are fixed ahead for each point."""

from stubbornest.benches import points_of
from stubbornest.benchkinds import is_rule, is_some_rule
from stubbornest.kinds import is_number
from stubbornest.knowns import floor_of
from stubbornest.layers import how_many
from stubbornest.refusals import require
from stubbornest.tables import answers_of


def tests_at(rule):
    """How many tests of a point leave one grade there, whatever the answers."""
    word, wrongs = rule
    return 2 * wrongs + 1 if word in ("all", "each") else wrongs + 1


def fixed_number(rule):
    """How many tests of each point are needed if they are fixed ahead."""
    require(is_some_rule(rule), "rule")
    return tests_at(rule)


def fixed_price(bench, rule):
    """How many tests are needed in all if they are fixed ahead."""
    require(is_rule(bench[3], rule), "rule")
    return tests_at(rule) * how_many(bench)


def are_counts(bench, thing):
    """Whether the thing is a tuple of numbers, one for each point."""
    if not isinstance(thing, tuple) or not all([is_number(count) for count in thing]):
        return False
    return len(thing) == how_many(bench)


def first_short(bench, rule, counts):
    """The number of the first point with fewer tests than needed; None if there is none."""
    require(is_rule(bench[3], rule), "rule")
    require(are_counts(bench, counts), "counts")
    for number, count in enumerate(counts):
        if count < tests_at(rule):
            return number
    return None


def decides(bench, rule, counts):
    """Whether so many tests of each point leave at most one table that fits, whatever the answers."""
    return first_short(bench, rule, counts) is None


def split_grades(rule, count):
    """So many answers 0 and 1 that both grades may be that of the point; too few to leave one of them."""
    ones = count // 2 if rule[0] in ("all", "each") else 0
    return [0] * (count - ones) + [1] * ones


def undecided(bench, rule, counts):
    """A log with these numbers of answers, and two tables that fit it; None if there is none for sure."""
    short = first_short(bench, rule, counts)
    if short is None:
        return None
    points = points_of(bench)
    other = floor_of(bench, ((points[short], 1),))
    one = other[:short] + (0,) + other[short + 1:]
    log = []
    for number, (point, grade) in enumerate(answers_of(bench, one)):
        grades = split_grades(rule, counts[number]) if number == short else [grade] * counts[number]
        log.extend([(point, told) for told in grades])
    return tuple(log), one, other
