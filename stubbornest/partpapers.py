"""Papers of chains."""

from stubbornest.listings import chains_of


def part_paper(bench):
    """The points of the bench on each chain that has one."""
    return tuple(chains_of(bench))
