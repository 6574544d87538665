"""Rounds: points that are tested at once."""

from stubbornest.benches import points_of
from stubbornest.counts import chain_counts
from stubbornest.knowns import known_bounds, narrowed, widest
from stubbornest.listings import names_by_size
from stubbornest.members import span_within
from stubbornest.refusals import require
from stubbornest.runs import bench_run
from stubbornest.tablekinds import is_table
from stubbornest.turns import frame_of, open_on, row_due, rows_of
from stubbornest.walks import size_of


def sizes_of(bench):
    """The sizes of the chains with a point of the bench, in the sequence of names_by_size."""
    return [size_of(bench, name) for name in names_by_size(bench)]


def tested_at_once(numbers):
    """Those of a stretch that are tested in one round."""
    if len(numbers) == 2:
        return numbers
    middle = len(numbers) // 2
    return numbers[middle:middle + 1]


def round_numbers(rows, sizes, bounds, top):
    """The numbers of the points of the next round, ascending; [] if all points are settled."""
    due = row_due(rows, bounds)
    if due is None:
        return []
    found = []
    for row, size in zip(rows, sizes):
        if size == sizes[due]:
            for grade in range(1, top + 1):
                found.extend(tested_at_once(open_on(bounds, row, grade)))
    return sorted(set(found))


def next_round(bench, known):
    """The set of the points that are tested at once; () if all points are settled."""
    bounds = known_bounds(bench, known)
    points = points_of(bench)
    return tuple([points[number] for number in round_numbers(rows_of(bench), sizes_of(bench), bounds, bench[3])])


def rounds_of(bench, table):
    """The answers of each round that finds the table."""
    require(is_table(bench, table), "table")
    points, sides, rows = frame_of(bench)
    sizes = sizes_of(bench)
    bounds = widest(bench, points)
    out = []
    numbers = round_numbers(rows, sizes, bounds, bench[3])
    while numbers:
        out.append(tuple([(points[number], table[number]) for number in numbers]))
        for number in numbers:
            bounds = narrowed(sides, bounds, number, table[number])
        numbers = round_numbers(rows, sizes, bounds, bench[3])
    return tuple(out)


def rounds_for(many):
    """At most how many rounds a stretch of so many points takes; it is at least one."""
    many_rounds = 1
    left = many
    while left > 2:
        left = left // 2
        many_rounds = many_rounds + 1
    return many_rounds


def rounds_bound(bench):
    """At most how many rounds find whichever table."""
    most = bench_run(bench) + 2
    insides = [span_within(bench, size)[1] for size, _ in chain_counts(bench)]
    return sum([rounds_for(min(inside, most)) for inside in insides if inside])
