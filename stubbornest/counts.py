"""How many chains there are, by size and by how many points of the bench they have."""

from stubbornest.benches import height
from stubbornest.kinds import bits
from stubbornest.layers import layers_of
from stubbornest.members import span_within
from stubbornest.runs import bench_run


def chain_counts(bench):
    """The pairs (size, how many chains of full points have this size), ascending."""
    layers = layers_of(bench)
    tall = height(bench)
    # A chain of size tall + 1 - 2 * a begins at rank a, and each of rank a - 1 goes on to rank a.
    starts = [(0, layers[0])] + [(rank, layers[rank] - layers[rank - 1]) for rank in range(1, tall // 2 + 1)]
    return tuple([(tall + 1 - 2 * rank, many) for rank, many in reversed(starts) if many])


def counts_within(bench):
    """The pairs (m, how many chains have exactly m points of the bench), ascending, m from 1 on."""
    counts = {}
    for size, many in chain_counts(bench):
        _, inside = span_within(bench, size)
        counts[inside] = counts.get(inside, 0) + many
    return tuple([(inside, counts[inside]) for inside in sorted(counts) if inside])


def long_weight(bench):
    """The long weight of the bench."""
    top = bench[3]
    most = bench_run(bench) + 2
    return sum([many * min(inside, top * bits(min(inside, most))) for inside, many in counts_within(bench)])
