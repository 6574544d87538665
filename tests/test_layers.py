import random

from stubbornest.benches import height, points_of
from stubbornest.changes import beside, cut_to, face_of, grown, reordered
from stubbornest.errors import NotUsable
from stubbornest.layers import how_many, layers_of, spread_of, weight_of, window_of
from stubbornest.shapes import flat
from stubbornest.turning import turned
from tests import oracle
from tests.cases import Case
from tests.samples import (
    DIAL, HUGE, LONG, LONG_FLATS, LONG_LADDERS, LONG_SWITCHES, MIX, NO_NUMBERS, NONE, PICK, SMALL, SWITCH, TWO, WARN,
)


def products(rows):
    """The layers of charts with these many levels at each rank, multiplied out."""
    out = [1]
    for row in rows:
        longer = [0] * (len(out) + len(row) - 1)
        for i, x in enumerate(out):
            for j, y in enumerate(row):
                longer[i + j] += x * y
        out = longer
    return tuple(out)


class Layers(Case):
    def test_the_examples_of_the_document(self):
        self.same(window_of(TWO, 2), (0, 1))
        self.same(layers_of(TWO), (1, 2, 1))
        self.same(layers_of(MIX), (1, 2, 2, 1))
        self.same(weight_of(TWO), 3)
        self.same(weight_of(WARN), 4)
        self.same(weight_of(MIX), 4)

    def test_by_definition(self):
        for bench in SMALL:
            ranks = [oracle.rank(bench, point) for point in oracle.full_points(bench)]
            self.same(layers_of(bench), tuple(ranks.count(rank) for rank in range(oracle.height(bench) + 1)))
            self.same(how_many(bench), len(oracle.points(bench)))
            for many in list(range(1, 9)) + [HUGE]:
                ranks = oracle.window(bench, many if many < 10 else 9)
                self.same(window_of(bench, many), (ranks[0], ranks[-1]))
                self.same(ranks, list(range(ranks[0], ranks[-1] + 1)))
                self.same(spread_of(many=many, bench=bench), oracle.spread(bench, min(many, 9)))
            self.same(spread_of(bench, 0), 0)
            self.same(weight_of(bench), oracle.spread(bench, 2 * bench[3]))

    def test_windows_of_all_ranges(self):
        for slots in range(7):
            for low in range(slots + 1):
                for high in range(low, slots + 1):
                    bench = ((SWITCH,) * slots, low, high, 1)
                    for many in range(1, slots + 4):
                        ranks = oracle.window(bench, many)
                        self.same(window_of(bench, many), (ranks[0], ranks[-1]))

    def test_layers_are_the_same_from_both_ends(self):
        for bench in SMALL + LONG:
            layers = layers_of(bench)
            self.same(layers, layers[::-1])
            self.same(len(layers), height(bench) + 1)

    def test_refusals(self):
        for many in NO_NUMBERS + (0,):
            self.fails(NotUsable, {"word": "many", "at": -1}, window_of, TWO, many)
            self.fails(NotUsable, {"word": "many", "at": -1}, window_of, many=many, bench=NONE)
        for many in NO_NUMBERS:
            self.fails(NotUsable, {"word": "many", "at": -1}, spread_of, TWO, many)

    def test_long(self):
        for bench in LONG:
            rows = []
            for chart in bench[0]:
                ranks = list(oracle.level_ranks(chart).values())
                rows.append([ranks.count(rank) for rank in range(max(ranks) + 1)])
            if bench != LONG_LADDERS:
                self.same(layers_of(bench), products(rows))
        self.same(sum(layers_of(LONG_LADDERS)), 64 ** 60)
        self.same(layers_of(LONG_LADDERS)[:3], (1, 60, 1830))
        self.same(how_many(LONG_LADDERS), 64 ** 60)
        self.same(layers_of(LONG_FLATS), (64 ** 60,))
        self.same(weight_of(LONG_FLATS), 64 ** 60)
        self.same(weight_of(LONG_SWITCHES), 2 ** 60)
        self.same(weight_of(LONG_SWITCHES[:3] + (30,)), 2 ** 60 - 1)
        self.same(window_of(LONG_LADDERS, HUGE), (0, 3780))
        self.same(spread_of(LONG_LADDERS, HUGE), 64 ** 60)
        self.same(window_of(LONG_LADDERS, 4), (1888, 1891))

    def test_changed_benches(self):
        rng = random.Random(3)
        for bench in SMALL + [LONG_SWITCHES]:
            order = list(range(len(bench[0])))
            rng.shuffle(order)
            wide = beside(bench, 3)
            taller = grown(bench, PICK)
            self.same(layers_of(wide), tuple(3 * count for count in layers_of(bench)))
            for many in range(7):
                spread = spread_of(bench, many)
                self.same(spread_of(turned(bench), many), spread)
                self.same(spread_of(reordered(bench, tuple(order)), many), spread)
                self.same(spread_of(wide, many), 3 * spread)
                self.assertGreaterEqual(spread_of(taller, many), spread)

    def test_faces_have_no_greater_spreads(self):
        for bench in SMALL:
            for slot, chart in enumerate(bench[0]):
                for level in range(len(chart[0])):
                    if any(point[slot] == level for point in oracle.points(bench)):
                        face = face_of(bench, slot, level)
                        for many in range(7):
                            self.assertLessEqual(spread_of(face, many), spread_of(bench, many))

    def test_no_sets_of_the_union_are_greater(self):
        # (G2): no c sets without a point below another one have more points in their union.
        for bench in SMALL:
            inside = oracle.points(bench)
            if len(inside) <= 10:
                order = oracle.Order(bench)
                for many in (1, 2, 3):
                    self.same(greatest_union(order, inside, many), spread_of(bench, many))

    def test_narrow_ranges(self):
        bench = ((DIAL, SWITCH, flat(2)), 0, 3, 1)
        for low in range(4):
            for high in range(low, 4):
                cut = cut_to(bench, low, high)
                self.same(how_many(cut), len(points_of(cut)))
                self.same(spread_of(cut, 9), len(points_of(cut)))


def greatest_union(order, inside, many):
    """The greatest set of points in which no more than many are one below the other."""
    best = 0
    for mask in range(1 << len(inside)):
        chosen = [point for number, point in enumerate(inside) if mask >> number & 1]
        if len(chosen) > best and longest_chain(order, chosen) <= many:
            best = len(chosen)
    return best


def longest_chain(order, chosen):
    length = {}
    for point in sorted(chosen, key=lambda one: order.ranks[one]):
        length[point] = 1 + max([length[other] for other in length if order.below(other, point)], default=0)
    return max(length.values(), default=0)
