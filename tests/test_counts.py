import random

from stubbornest.benches import height
from stubbornest.changes import beside, reordered
from stubbornest.counts import chain_counts, counts_within, long_weight
from stubbornest.errors import NotUsable
from stubbornest.layers import layers_of, spread_of, weight_of
from stubbornest.ranking import chain_number, nth_chain
from stubbornest.runs import bench_run
from stubbornest.turning import turned
from stubbornest.walks import size_of
from tests import oracle
from tests.cases import Case
from tests.samples import (
    DIAL, HUGE, LONG, LONG_FLATS, LONG_LADDERS, LONG_SWITCHES, MIX, NO_NUMBERS, NONE, ODD, SMALL, SWITCH, TWO,
    random_benches,
)
from tests.test_walks import random_name

MANY = SMALL + random_benches(31, 40, 200, 200)


def tally(sizes):
    return tuple((size, sizes.count(size)) for size in sorted(set(sizes)) if size)


def points_on_chains(bench):
    inside = set(oracle.points(bench))
    return [len(inside.intersection(members)) for members in oracle.chains(bench).values()]


def long_weight_by_words(bench):
    most = max([oracle.chart_run(chart) for chart in bench[0]], default=0) + 2
    return sum(min(m, bench[3] * oracle.bits(min(m, most))) for m in points_on_chains(bench))


class Counts(Case):
    def test_example(self):
        told = chain_counts(MIX), counts_within(((DIAL, SWITCH), 1, 2, 1)), long_weight(MIX)
        self.same(told, (((2, 1), (4, 1)), ((2, 2),), 4))

    def test_by_listing(self):
        for bench in MANY:
            self.same(chain_counts(bench), tally([len(row) for row in oracle.chains(bench).values()]))
            self.same(counts_within(bench), tally(points_on_chains(bench)))
            self.same(long_weight(bench), long_weight_by_words(bench))

    def test_spreads_over_chains(self):
        for bench in MANY + LONG:
            for many in (0, 1, 2, 5, HUGE):
                self.same(spread_of(bench, many), sum(count * min(many, m) for m, count in counts_within(bench)))

    def test_long_weight_and_weight(self):
        for bench in MANY + LONG:
            wide = bench[2] - bench[1] + 1
            if bench_run(bench) <= 1 or wide <= 3 or wide <= 2 * bench[3]:
                self.same(long_weight(bench), weight_of(bench))
            else:
                self.assertGreater(long_weight(bench), weight_of(bench))

    def test_no_slots(self):
        self.same(chain_counts(NONE), ((1, 1),))
        self.same(counts_within(NONE), ((1, 1),))
        self.same(long_weight(NONE), 1)

    def test_changed_benches(self):
        for bench in MANY + [LONG_SWITCHES[:2] + (40, 1)]:
            order = tuple(reversed(range(len(bench[0]))))
            for other in (turned(bench), reordered(bench, order)):
                self.same(chain_counts(other), chain_counts(bench))
                self.same(counts_within(other), counts_within(bench))
                self.same(long_weight(other), long_weight(bench))
            wide = beside(bench, 5)
            self.same(chain_counts(wide), tuple((size, 5 * many) for size, many in chain_counts(bench)))
            self.same(counts_within(wide), tuple((m, 5 * many) for m, many in counts_within(bench)))
            self.same(long_weight(wide), 5 * long_weight(bench))

    def test_long(self):
        self.same(chain_counts(LONG_FLATS), ((1, 64 ** 60),))
        self.same(counts_within(LONG_FLATS), ((1, 64 ** 60),))
        self.same(long_weight(LONG_FLATS), 64 ** 60)
        counts = chain_counts(LONG_LADDERS)
        self.same(counts[-2:], ((3779, 59), (3781, 1)))
        for bench in LONG:
            layers = (0,) + layers_of(bench)
            for size, many in chain_counts(bench):
                rank = (height(bench) + 1 - size) // 2
                self.same(many, layers[rank + 1] - layers[rank])
                self.assertGreater(many, 0)
            self.same(sum(size * many for size, many in chain_counts(bench)), sum(layers))
        ladders = LONG_LADDERS[:3] + (1,)
        wanted = sum(many * min(size, oracle.bits(min(size, 64))) for size, many in counts)
        self.same(long_weight(ladders), wanted)
        self.same(long_weight(LONG_LADDERS), 64 ** 60)


class Ranking(Case):
    def test_example(self):
        self.same(nth_chain(((SWITCH, SWITCH, SWITCH), 0, 3, 1), 2, 1), ((0, 0), (0, 1), (0, 0)))

    def test_by_sorting(self):
        for bench in MANY:
            rows = oracle.chains(bench)
            sizes = {}
            for name in sorted(rows):
                sizes.setdefault(len(rows[name]), []).append(name)
            for size, names in sizes.items():
                for number, name in enumerate(names):
                    self.same(chain_number(bench, name), number)
                    self.same(nth_chain(bench, size, number), name)
                self.fails(NotUsable, {"word": "number", "at": -1}, nth_chain, bench, size, len(names))
            for size in range(height(bench) + 4):
                if size not in sizes:
                    self.fails(NotUsable, {"word": "size", "at": -1}, nth_chain, bench, size, 0)

    def test_refusals(self):
        for thing in ODD + (((0, 0), (0, 2)), ((0, 0), (0, True)), [(0, 0), (0, 0)]):
            self.fails(NotUsable, {"word": "name", "at": -1}, chain_number, MIX, thing)
            self.fails(NotUsable, {"word": "name", "at": -1}, chain_number, name=thing, bench=MIX)
        for size in NO_NUMBERS + (0, 1, 3, 5, 10 ** 60 - 1):
            self.fails(NotUsable, {"word": "size", "at": -1}, nth_chain, MIX, size, 0)
            self.fails(NotUsable, {"word": "size", "at": -1}, nth_chain, number=None, size=size, bench=MIX)
        for number in NO_NUMBERS + (1, 10 ** 60 - 1):
            self.fails(NotUsable, {"word": "number", "at": -1}, nth_chain, MIX, 2, number)
        # True is no size, though there are chains of size 1.
        self.fails(NotUsable, {"word": "size", "at": -1}, nth_chain, TWO, True, 0)
        self.same(nth_chain(number=0, size=1, bench=TWO), ((0, 0), (0, 1)))
        self.same(nth_chain(NONE, 1, 0), ())
        self.same(chain_number(NONE, ()), 0)

    def test_long(self):
        rng = random.Random(12)
        for bench in LONG:
            counts = dict(chain_counts(bench))
            for _ in range(3):
                name, size = random_name(rng, bench)
                number = chain_number(bench, name)
                self.assertLess(number, counts[size])
                self.same(nth_chain(bench, size, number), name)
            for size in (min(counts), max(counts)):
                for number in (0, counts[size] - 1, rng.randrange(counts[size])):
                    name = nth_chain(bench, size, number)
                    self.same(size_of(bench, name), size)
                    self.same(chain_number(bench, name), number)
                self.fails(NotUsable, {"word": "number", "at": -1}, nth_chain, bench, size, counts[size])
        last = 64 ** 60 - 1
        self.same(nth_chain(LONG_FLATS, 1, last), ((63, 0),) * 60)
        self.same(chain_number(LONG_FLATS, ((63, 0),) * 60), last)
        self.same(nth_chain(LONG_LADDERS, 3779, 0), ((0, 0),) * 59 + ((0, 1),))
