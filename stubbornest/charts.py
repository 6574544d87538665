"""Charts: heights, ranks, places, what is below what, partners and runs."""

from stubbornest.kinds import is_index
from stubbornest.refusals import require


def height_of(chart):
    """The size of the longest chain, less one."""
    return max([len(row) for row in chart[1]]) - 1


def height_sum(charts):
    """The sum of the heights of the charts."""
    return sum([height_of(chart) for chart in charts])


def ranks_of(chart):
    """The rank of each level."""
    lowers, chains = chart
    longest = height_of(chart) + 1
    ranks = [0] * len(lowers)
    for row in chains:
        start = (longest - len(row)) // 2
        for place, level in enumerate(row):
            ranks[level] = start + place
    return tuple(ranks)


def rank_sum(charts, point):
    """The rank of a full point over these charts."""
    return sum([ranks_of(chart)[level] for chart, level in zip(charts, point)])


def places_of(chart):
    """The pair (index of the chain, place) of each level."""
    lowers, chains = chart
    places = [(0, 0) for _ in lowers]
    for index, row in enumerate(chains):
        for place, level in enumerate(row):
            places[level] = (index, place)
    return tuple(places)


def place_of(chart, level):
    """The pair (index of the chain, place) of the level."""
    require(is_index(len(chart[0]), level), "level")
    return places_of(chart)[level]


def uppers_of(chart):
    """The set of the levels directly above it, for each level."""
    lowers = chart[0]
    uppers = [[] for _ in lowers]
    for level, lower in enumerate(lowers):
        for other in lower:
            uppers[other].append(level)
    return tuple([tuple(upper) for upper in uppers])


def under_masks(chart):
    """A number for each level: its binary digit l is 1 if the level l is at or below it."""
    lowers = chart[0]
    ranks = ranks_of(chart)
    masks = [0] * len(lowers)
    # Upward by rank, so that all that is directly below has its mask already.
    for level in sorted(list(range(len(lowers))), key=lambda one: ranks[one]):
        mask = 1 << level
        for lower in lowers[level]:
            mask = mask | masks[lower]
        masks[level] = mask
    return tuple(masks)


def lies_under(masks, one, other):
    """Whether the full point one is at or below the other, by the masks of the slots."""
    return all([(mask[upper] >> lower) & 1 == 1 for mask, lower, upper in zip(masks, one, other)])


def is_below(chart, one, other):
    """Whether the level one is below the level other."""
    require(is_index(len(chart[0]), one), "one")
    require(is_index(len(chart[0]), other), "other")
    return one != other and lies_under((under_masks(chart),), (one,), (other,))


def sizes_at(chart):
    """The size of the chain on which it lies, for each level."""
    lowers, chains = chart
    sizes = [0] * len(lowers)
    for row in chains:
        for level in row:
            sizes[level] = len(row)
    return sizes


def levels_between(chart, first, last):
    """The set of the levels directly above the first and directly below the last."""
    lowers = chart[0]
    return tuple([level for level in lowers[last] if first in lowers[level]])


def partners_in(chart, sizes, row, place):
    """The partners of the three around this place of the row, by the sizes at the levels."""
    between = levels_between(chart, row[place - 1], row[place + 1])
    return tuple([level for level in between if level != row[place] and sizes[level] < len(row)])


def partners_of(chart, index, place):
    """The set of the partners of the three whose middle is at this place of the chain."""
    chains = chart[1]
    require(is_index(len(chains), index), "index")
    row = chains[index]
    require(is_index(len(row) - 1, place) and place >= 1, "place")
    return partners_in(chart, sizes_at(chart), row, place)


def longest_row(places):
    """The greatest number of successive places among these ascending ones."""
    best = 0
    length = 0
    ahead = None
    for place in places:
        length = length + 1 if ahead is not None and place == ahead + 1 else 1
        best = max(best, length)
        ahead = place
    return best


def run_of(chart):
    """The greatest number of successive straight threes on one chain."""
    sizes = sizes_at(chart)
    best = 0
    for row in chart[1]:
        straight = [at for at in range(1, len(row) - 1) if not partners_in(chart, sizes, row, at)]
        best = max(best, longest_row(straight))
    return best
