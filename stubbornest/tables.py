"""Tables: grades, all tables, the lesser and the greater of two, tables by ranks, turned tables."""

from stubbornest.benches import masks_of, number_of, points_of, rank_of
from stubbornest.charts import lies_under
from stubbornest.kinds import are_indices
from stubbornest.refusals import require
from stubbornest.tablekinds import is_table


def grade_at(bench, table, point):
    """The grade of the table at the point."""
    require(is_table(bench, table), "table")
    return table[number_of(bench, point)]


def answers_of(bench, table):
    """The answers with the table's grades, one for each point, ascending."""
    return tuple(zip(points_of(bench), table))


def earlier_pairs(bench):
    """The pair (numbers of the earlier points below, numbers of the earlier points above) of each point."""
    points = points_of(bench)
    masks = masks_of(bench)
    pairs = []
    for number, point in enumerate(points):
        lower = [at for at in range(number) if lies_under(masks, points[at], point)]
        upper = [at for at in range(number) if lies_under(masks, point, points[at])]
        pairs.append((lower, upper))
    return pairs


def filled_up(pairs, begun):
    """The least table that begins with these grades."""
    table = list(begun)
    for lower, _ in pairs[len(begun):]:
        table.append(max([table[at] for at in lower], default=0))
    return tuple(table)


def table_behind(pairs, table, top):
    """The next table, ascending; None behind the last one."""
    for number in range(len(table) - 1, -1, -1):
        most = min([table[at] for at in pairs[number][1]], default=top)
        if table[number] < most:
            return filled_up(pairs, table[:number] + (table[number] + 1,))
    return None


def tables_of(bench):
    """Yields all tables, ascending."""
    pairs = earlier_pairs(bench)
    table = filled_up(pairs, ())
    while table is not None:
        yield table
        table = table_behind(pairs, table, bench[3])


def lesser(bench, one, other):
    """The table of the lesser grades of two."""
    require(is_table(bench, one), "one")
    require(is_table(bench, other), "other")
    return tuple([min(low, high) for low, high in zip(one, other)])


def greater(bench, one, other):
    """The table of the greater grades of two."""
    require(is_table(bench, one), "one")
    require(is_table(bench, other), "other")
    return tuple([max(low, high) for low, high in zip(one, other)])


def are_rank_grades(bench, thing):
    """Whether the thing is a tuple of grades that never fall, one for each rank of the bench."""
    _, low, high, top = bench
    if not are_indices(top + 1, thing) or len(thing) != high - low + 1:
        return False
    return all([one <= other for one, other in zip(thing, thing[1:])])


def rank_table(bench, grades):
    """The table that has the same grade at all points of one rank."""
    require(are_rank_grades(bench, grades), "grades")
    return tuple([grades[rank_of(bench, point) - bench[1]] for point in points_of(bench)])


def turned_table(bench, table):
    """The table of the turned bench that lacks of the top what the given one has."""
    require(is_table(bench, table), "table")
    # Turning keeps the levels, hence the points and their sequence.
    return tuple([bench[3] - grade for grade in table])
