"""The price of a claim."""

from stubbornest.benchkinds import is_rule
from stubbornest.prices import rule_price
from stubbornest.refusals import require
from stubbornest.rims import lowerable, raisable, rim_of


def claim_price(bench, rule, table):
    """The least number of answers that judge the table in any case."""
    require(is_rule(bench[3], rule), "rule")
    word, wrongs = rule
    rim = rim_of(bench, table)
    if word != "yes":
        return rule_price(rule, len(rim))
    rising = len(raisable(bench, table))
    sinking = len(lowerable(bench, table))
    return (wrongs + 1) * rising + sinking if rising else sinking + wrongs
