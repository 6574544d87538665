"""Charts, benches and odd values for the tests."""

import random

from stubbornest.shapes import flat, ladder, pick, ring

SWITCH = (((), (0,)), ((0, 1),))
DIAL = (((), (0,), (1,)), ((0, 1, 2),))
PICK = (((), (0,), (0,), (0,), (1, 2, 3)), ((0, 1, 4), (2,), (3,)))
PAIRS = (((), (), (0, 1), (0, 1), (2, 3), (2, 3)), ((0, 2, 4), (1, 3, 5)))
TWO, WARN = ((SWITCH, SWITCH), 0, 2, 1), ((SWITCH, SWITCH), 0, 2, 2)
MIX = ((DIAL, SWITCH), 0, 3, 1)
NONE = ((), 0, 0, 1)

# The same shapes with levels that are numbered in another sequence.
SWITCH_DOWN = (((1,), ()), ((1, 0),))
DIAL_MIXED = (((2,), (0,), ()), ((2, 0, 1),))

# No top or bottom level that all share, and levels of one rank that are above different ones.
LOOSE = (((), (), (0,), (0, 1), (3,), (2, 3)), ((0, 2, 5), (1, 3, 4)))

ONE_LEVEL = (((),), ((0,),))

# Values of every kind that "any value" speaks of, none of which is a point, a name, a table.
ODD = (
    None, True, False, -1, -(10 ** 59), 10 ** 60 - 1, "", "0", "all", "(0, 1)",
    [], [0], [0, 1], [[0, 0], [0, 0]], (None,), ("0",), (True,), (False, False), (0, True), ([0], [1]),
    ((),), ((), ()), (((),), ((0,),), 0), ((((((),),),),),), (-1, 0), (0, -1), (0, 0, 0, 0, 0, 0, 0, 0, 0),
)

# Values that are no number at all.
NO_NUMBERS = (None, True, False, -1, -(10 ** 59), "", "0", "1", (), (1,), [1], [])


def relabelled(chart, names):
    """The same chart, the level l being called names[l]."""
    lowers, chains = chart
    out = [()] * len(lowers)
    for level, lower in enumerate(lowers):
        out[names[level]] = tuple(sorted(names[other] for other in lower))
    return tuple(out), tuple(sorted(tuple(names[level] for level in row) for row in chains))


def random_chart(rng, longest, many):
    """Some chart with a longest chain of this size and at most many further chains."""
    sizes = [longest] + [rng.randrange(longest, 0, -2) for _ in range(rng.randint(0, many))]
    ranks, lowers, chains = [], [], []
    for size in sizes:
        row = []
        for place in range(size):
            row.append(len(ranks))
            ranks.append((longest - size) // 2 + place)
            lowers.append(row[-2:-1])
        chains.append(tuple(row))
    for level, lower in enumerate(lowers):
        for other, rank in enumerate(ranks):
            if rank + 1 == ranks[level] and other not in lower and rng.random() < 0.5:
                lower.append(other)
    names = list(range(len(ranks)))
    rng.shuffle(names)
    return relabelled((tuple(tuple(sorted(lower)) for lower in lowers), tuple(chains)), names)


def random_benches(seed, many, most_full, most_points):
    """Some benches of random charts within these limits."""
    rng = random.Random(seed)
    found = []
    while len(found) < many:
        charts = tuple(random_chart(rng, rng.randint(1, 4), rng.randint(0, 2)) for _ in range(rng.randint(1, 4)))
        total = sum(max(len(row) for row in chart[1]) - 1 for chart in charts)
        full = 1
        for chart in charts:
            full *= len(chart[0])
        low = rng.randint(0, total)
        high = rng.randint(low, total)
        if full <= most_full and (full <= most_points or high - low <= 1):
            found.append((charts, low, high, rng.randint(1, 3)))
    return found


SMALL = [
    NONE, ((), 0, 0, 3), TWO, WARN, MIX,
    ((DIAL, SWITCH), 1, 2, 1), ((DIAL, SWITCH), 2, 2, 2), ((DIAL, SWITCH), 3, 3, 1), ((DIAL, SWITCH), 0, 0, 1),
    ((SWITCH_DOWN, DIAL_MIXED), 0, 3, 1), ((DIAL_MIXED, SWITCH_DOWN), 1, 3, 2),
    ((PICK,), 0, 2, 1), ((PICK, SWITCH), 0, 3, 1), ((PAIRS,), 0, 2, 1), ((PAIRS, SWITCH), 1, 2, 1),
    ((LOOSE,), 0, 2, 2), ((LOOSE, SWITCH_DOWN), 0, 3, 1),
    ((ONE_LEVEL,), 0, 0, 1), ((ONE_LEVEL, SWITCH, ONE_LEVEL), 0, 1, 2),
    ((flat(3),), 0, 0, 1), ((flat(3), SWITCH), 0, 1, 1), ((SWITCH, flat(2), DIAL), 1, 2, 1),
    ((ring(2),), 0, 3, 1), ((ring(3), SWITCH), 1, 3, 1), ((ladder(5),), 0, 4, 1), ((ladder(4), ladder(4)), 0, 6, 1),
    ((SWITCH, SWITCH, SWITCH), 0, 3, 1), ((SWITCH,) * 4, 1, 3, 1), ((SWITCH,) * 5, 0, 5, 1),
    ((pick(1), pick(2)), 0, 4, 2),
] + random_benches(7, 30, 100, 40)

# What is marked (long) takes: sixty slots, sixty-four levels, numbers of one hundred and twenty digits.
HUGE = 10 ** 120 - 1
LONG_LADDERS = ((ladder(64),) * 60, 0, 3780, HUGE)
LONG_FLATS = ((flat(64),) * 60, 0, 0, HUGE)
LONG_PICKS = ((pick(62),) * 60, 3, 100, HUGE)
LONG_RINGS = ((ring(31),) * 59 + (SWITCH,), 80, 81, 10 ** 119)
LONG_SWITCHES = ((SWITCH,) * 60, 0, 60, HUGE)
LONG_MIX = ((ladder(64), pick(62), ring(31), flat(64), SWITCH_DOWN, DIAL_MIXED) * 10, 10, 400, HUGE)
LONG = [LONG_LADDERS, LONG_FLATS, LONG_PICKS, LONG_RINGS, LONG_SWITCHES, LONG_MIX]
