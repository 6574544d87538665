"""The definitions of the document, done the slow way."""

import itertools


def direct(chart):
    """All pairs (d, l) of levels with d directly below l."""
    return {(lower, level) for level, lowers in enumerate(chart[0]) for lower in lowers}


def level_below(chart):
    """All pairs (x, y) of levels with x below y."""
    pairs = direct(chart)
    while True:
        more = {(x, z) for x, y in pairs for v, z in pairs if y == v} - pairs
        if not more:
            return pairs
        pairs = pairs | more


def level_ranks(chart):
    longest = max(len(row) for row in chart[1])
    return {level: (longest - len(row)) // 2 + place for row in chart[1] for place, level in enumerate(row)}


def height(bench):
    return sum(max(len(row) for row in chart[1]) - 1 for chart in bench[0])


def full_points(bench):
    return sorted(itertools.product(*[range(len(chart[0])) for chart in bench[0]]))


def rank(bench, point):
    return sum(level_ranks(chart)[level] for chart, level in zip(bench[0], point))


def points(bench):
    return [point for point in full_points(bench) if bench[1] <= rank(bench, point) <= bench[2]]


class Order:
    """What is under what among the full points of a bench."""

    def __init__(self, bench):
        self.pairs = [level_below(chart) for chart in bench[0]]
        self.ranks = {point: rank(bench, point) for point in full_points(bench)}

    def under(self, one, other):
        return all(x == y or (x, y) in pairs for x, y, pairs in zip(one, other, self.pairs))

    def below(self, one, other):
        return one != other and self.under(one, other)

    def directly(self, one, other):
        return self.ranks[one] + 1 == self.ranks[other] and self.under(one, other)


def walk(bench, point):
    """The name, the place and the size by the words of [7]."""
    p = x = 0
    name = []
    for chart, level in zip(bench[0], point):
        index, = [c for c, row in enumerate(chart[1]) if level in row]
        y = chart[1][index].index(level)
        q = len(chart[1][index]) - 1
        hook = min(y, p - x)
        x = x + y - hook
        p = p + q - 2 * hook
        name.append((index, hook))
    return tuple(name), x, p + 1


def chains(bench):
    """For each name the members, upward."""
    found = {}
    for point in full_points(bench):
        name, place, _ = walk(bench, point)
        found.setdefault(name, {})[place] = point
    return {name: tuple(row[place] for place in sorted(row)) for name, row in found.items()}


def bits(number):
    return 0 if number == 0 else 1 + bits(number // 2)


def longest_row(places):
    best = 0
    for start in places:
        length = 0
        while start + length in places:
            length += 1
        best = max(best, length)
    return best


def chart_run(chart):
    below = level_below(chart)
    size = {level: len(row) for row in chart[1] for level in row}
    best = 0
    for row in chart[1]:
        straight = set()
        for place in range(1, len(row) - 1):
            low, middle, high = row[place - 1:place + 2]
            if not [b for b in size if b != middle and (low, b) in below and (b, high) in below and size[b] < len(row)]:
                straight.add(place)
        best = max(best, longest_row(straight))
    return best


def window(bench, many):
    """The ranks of the window, found one by one."""
    tall = height(bench)
    near = sorted(range(bench[1], bench[2] + 1), key=lambda r: (abs(2 * r - tall), r))
    return sorted(near[:many])


def spread(bench, many):
    ranks = window(bench, many) if many else []
    return len([point for point in full_points(bench) if rank(bench, point) in ranks])


def is_monotone(order, where, table):
    return all(
        table[i] <= table[j]
        for i, one in enumerate(where)
        for j, other in enumerate(where)
        if order.under(one, other)
    )


def tables(bench):
    """All tables, out of all tuples of grades."""
    where = points(bench)
    order = Order(bench)
    grades = range(bench[3] + 1)
    return [table for table in itertools.product(grades, repeat=len(where)) if is_monotone(order, where, table)]
