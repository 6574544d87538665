"""The bounds of the least number of tests."""

from stubbornest.benchkinds import is_rule
from stubbornest.counts import long_weight
from stubbornest.errors import Apart
from stubbornest.layers import layers_of, spread_of, weight_of
from stubbornest.refusals import require
from stubbornest.runs import bench_run


def rule_price(rule, many):
    """How many answers settle so many points in any case, under a rule with another word than "yes"."""
    word, wrongs = rule
    if word == "all":
        return (wrongs + 1) * many + wrongs
    return (2 * wrongs + 1) * many if word == "each" else (wrongs + 1) * many


def upper_price(bench, wrongs):
    """How many answers are enough if the uppermost open points come first, under "yes"."""
    return wrongs * spread_of(bench, 1) + spread_of(bench, bench_run(bench) + 2)


def layers_price(bench, wrongs):
    """How many answers two successive layers, or the last one, ask for under "yes"."""
    low, high = bench[1:3]
    layers = layers_of(bench)
    pairs = [(wrongs + 1) * layers[rank] + layers[rank + 1] for rank in range(low, high)]
    return max(pairs + [(wrongs + 1) * layers[high]])


def price_span(bench, rule):
    """The pair of the bounds of the least number."""
    require(is_rule(bench[3], rule), "rule")
    word, wrongs = rule
    if word != "yes":
        return rule_price(rule, weight_of(bench)), rule_price(rule, long_weight(bench))
    return layers_price(bench, wrongs), min((wrongs + 1) * long_weight(bench), upper_price(bench, wrongs))


def least_number(bench, rule):
    """The least number, where its bounds are equal."""
    least, most = price_span(bench, rule)
    if least != most:
        raise Apart(least, most)
    return least


def upper_first(bench, rule):
    """Whether the uppermost open points come first."""
    require(is_rule(bench[3], rule), "rule")
    word, wrongs = rule
    return word == "yes" and upper_price(bench, wrongs) <= (wrongs + 1) * long_weight(bench)
