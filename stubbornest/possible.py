"""What is possible and sure by a log, and tables that fit it."""

from stubbornest.benches import number_of
from stubbornest.benchkinds import is_rule
from stubbornest.fittings import Fittings
from stubbornest.logkinds import is_log
from stubbornest.logs import fits
from stubbornest.refusals import require


def fittings_of(bench, rule, log):
    """The tables that fit; refuses what is no rule or no log."""
    require(is_rule(bench[3], rule), "rule")
    require(is_log(bench, log), "log")
    return Fittings(bench, rule, log)


def possible_at(bench, rule, log, point):
    """The set of the grades that are possible at the point."""
    fittings = fittings_of(bench, rule, log)
    number = number_of(bench, point)
    return tuple([grade for grade in range(bench[3] + 1) if fittings.having(number, grade) is not None])


def sure_points(bench, rule, log):
    """The known of all sure points with their grades."""
    return fittings_of(bench, rule, log).sure()


def shown_table(bench, rule, log):
    """The table that the log shows, or None."""
    fittings = fittings_of(bench, rule, log)
    table = fittings.first()
    return None if table is None or fittings.second(table) is not None else table


def two_fits(bench, rule, log):
    """Two different tables that fit, or None."""
    fittings = fittings_of(bench, rule, log)
    table = fittings.first()
    other = None if table is None else fittings.second(table)
    return None if other is None else (table, other)


def beside_fit(bench, rule, log, table):
    """Another table that fits and is nowhere less, or nowhere greater, than this one; None if no other one fits."""
    require(fits(bench, rule, log, table), "table")
    return Fittings(bench, rule, log).beside(table)
