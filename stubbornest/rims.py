"""The points at which a table can be changed: raisable ones, lowerable ones, the rim."""

from stubbornest.benches import direct_pairs, points_of
from stubbornest.listings import points_on
from stubbornest.refusals import require
from stubbornest.tablekinds import is_table


def movable(bench, table):
    """The pair of lists that tell of each point whether it is raisable, whether it is lowerable."""
    up = [grade < bench[3] for grade in table]
    down = [grade > 0 for grade in table]
    # A table never falls, so the points further above and below need not be looked at.
    for lower, upper in direct_pairs(bench, points_of(bench)):
        if table[lower] == table[upper]:
            up[lower] = False
            down[upper] = False
    return up, down


def rim_numbers(bench, table):
    """The numbers of the points in the rim, ascending."""
    up, down = movable(bench, table)
    return [number for number, (rises, sinks) in enumerate(zip(up, down)) if rises or sinks]


def chosen(rows, flags):
    """The tuple of those rows whose flag is True."""
    return tuple([row for row, flag in zip(rows, flags) if flag])


def raisable(bench, table):
    """The set of the points that are raisable."""
    require(is_table(bench, table), "table")
    return chosen(points_of(bench), movable(bench, table)[0])


def lowerable(bench, table):
    """The set of the points that are lowerable."""
    require(is_table(bench, table), "table")
    return chosen(points_of(bench), movable(bench, table)[1])


def rim_of(bench, table):
    """The set of the points in the rim."""
    require(is_table(bench, table), "table")
    points = points_of(bench)
    return tuple([points[number] for number in rim_numbers(bench, table)])


def rim_on(bench, table, name):
    """The set of the points of the rim on the chain with this name."""
    rim = rim_of(bench, table)
    row = points_on(bench, name)
    return tuple([point for point in rim if point in row])
