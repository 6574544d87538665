"""The checker of charts."""

from stubbornest.charts import height_of, ranks_of
from stubbornest.errors import InvalidPaper
from stubbornest.kinds import are_indices, is_set


def lets_chart(thing):
    """The height of the chart; InvalidPaper for the first entry of the list that applies."""
    check_shape(thing)
    check_lowers(thing)
    check_chains(thing)
    check_levels(thing)
    check_sizes(thing)
    check_ranks(thing)
    check_links(thing)
    return height_of(thing)


def check_shape(thing):
    """The entry "shape"."""
    if not isinstance(thing, tuple) or len(thing) != 2:
        raise InvalidPaper("shape", -1)
    lowers, chains = thing
    if not isinstance(lowers, tuple) or not isinstance(chains, tuple) or not lowers:
        raise InvalidPaper("shape", -1)


def check_lowers(thing):
    """The entry "lower"."""
    lowers = thing[0]
    for level, lower in enumerate(lowers):
        if not is_set(len(lowers), lower):
            raise InvalidPaper("lower", level)


def check_chains(thing):
    """The entry "chain"."""
    lowers, chains = thing
    # Every chain is greater than the empty tuple, so the first one needs no test of its own.
    ahead = ()
    for index, row in enumerate(chains):
        if not are_indices(len(lowers), row) or not row > ahead:
            raise InvalidPaper("chain", index)
        ahead = row


def check_levels(thing):
    """The entry "level"."""
    lowers, chains = thing
    counts = [0] * len(lowers)
    for row in chains:
        for level in row:
            counts[level] = counts[level] + 1
    for level, count in enumerate(counts):
        if count != 1:
            raise InvalidPaper("level", level)


def check_sizes(thing):
    """The entry "size"."""
    longest = height_of(thing) + 1
    for index, row in enumerate(thing[1]):
        if (longest - len(row)) % 2 == 1:
            raise InvalidPaper("size", index)


def check_ranks(thing):
    """The entry "rank"."""
    ranks = ranks_of(thing)
    for level, lower in enumerate(thing[0]):
        for other in lower:
            if ranks[other] + 1 != ranks[level]:
                raise InvalidPaper("rank", (level, other))


def check_links(thing):
    """The entry "link"."""
    lowers, chains = thing
    for index, row in enumerate(chains):
        for place, (level, above) in enumerate(zip(row, row[1:])):
            if level not in lowers[above]:
                raise InvalidPaper("link", (index, place))
