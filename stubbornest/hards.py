"""Step tables, and tables whose claim has the highest price."""

from stubbornest.benches import points_of, rank_of
from stubbornest.benchkinds import is_rule
from stubbornest.claims import claim_price
from stubbornest.kinds import is_integer
from stubbornest.refusals import require
from stubbornest.stubborn import stubborn_table


def step_table(bench, rank):
    """The table that has top at each point of a greater rank, 0 at the others."""
    _, low, high, top = bench
    require(is_integer(rank) and low - 1 <= rank <= high, "rank")
    return tuple([top if rank_of(bench, point) > rank else 0 for point in points_of(bench)])


def hard_table(bench, rule):
    """The table whose claim has the price that is the least bound of the least number."""
    require(is_rule(bench[3], rule), "rule")
    if rule[0] != "yes":
        return stubborn_table(bench)
    tables = [step_table(bench, rank) for rank in range(bench[1] - 1, bench[2] + 1)]
    # Of several with one price max takes the first, which is that of the least rank.
    return max(tables, key=lambda table: claim_price(bench, rule, table))
