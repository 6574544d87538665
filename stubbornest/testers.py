"""What the logs of several testers, each under a rule of its own, leave together."""

from stubbornest.benches import points_of
from stubbornest.benchkinds import is_rule
from stubbornest.logkinds import is_log
from stubbornest.pointwise import greatest_by, least_by, lefts_of
from stubbornest.refusals import require


def is_tester(bench, thing):
    """Whether the thing is a pair of a rule with the word "each" or "low" and a log."""
    if not isinstance(thing, tuple) or len(thing) != 2:
        return False
    rule, log = thing
    return is_rule(bench[3], rule) and rule[0] in ("each", "low") and is_log(bench, log)


def are_testers(bench, thing):
    """Whether the thing is a tuple of testers."""
    return isinstance(thing, tuple) and all([is_tester(bench, tester) for tester in thing])


def common(one, other):
    """The set of the grades that are in both sets."""
    return tuple([grade for grade in one if grade in other])


def joined_fits(bench, testers):
    """The pair of the least and the greatest table that fit each log under its own rule; None if there is none."""
    require(are_testers(bench, testers), "testers")
    lefts = [tuple(range(bench[3] + 1)) for _ in points_of(bench)]
    for rule, log in testers:
        lefts = [common(one, other) for one, other in zip(lefts, lefts_of(bench, rule, log))]
    least = least_by(bench, lefts)
    return None if least is None else (least, greatest_by(bench, lefts))
