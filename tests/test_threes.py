import random

from stubbornest.changes import beside, cut_to, reordered
from stubbornest.errors import NotUsable
from stubbornest.runs import bench_run
from stubbornest.shapes import flat, ladder, pick, ring
from stubbornest.threes import inner_points, partners_at, run_on, straight_places, three_at
from stubbornest.turning import turned
from stubbornest.walks import size_of
from tests import oracle
from tests.cases import Case
from tests.samples import (
    DIAL, LONG, LONG_FLATS, LONG_LADDERS, LONG_MIX, LONG_RINGS, LONG_SWITCHES, MIX, NO_NUMBERS, NONE, ODD, PAIRS, PICK,
    SMALL, SWITCH, TWO, random_benches,
)
from tests.test_walks import random_name


def neighbours(order, full, point):
    """The full points directly above."""
    return [other for other in full if order.directly(point, other)]


class Threes(Case):
    def test_examples(self):
        bench = ((PAIRS,), 0, 2, 1)
        self.same(inner_points(bench, ((0, 0),), 1), ((3,),))
        self.same(partners_at(bench, ((0, 0),), 1), ())
        self.same(straight_places(MIX, ((0, 0), (0, 0))), (1,))

    def test_by_direct_neighbours(self):
        bent = 0
        for bench in SMALL + random_benches(21, 15, 60, 60):
            order = oracle.Order(bench)
            full = oracle.full_points(bench)
            rows = oracle.chains(bench)
            size = {point: len(members) for members in rows.values() for point in members}
            above = {point: neighbours(order, full, point) for point in full}
            for name, members in rows.items():
                straight = []
                for place in range(1, len(members) - 1):
                    three = members[place - 1:place + 2]
                    inner = [b for b in above[three[0]] if three[2] in above[b] and b != three[1]]
                    partners = tuple(b for b in sorted(inner) if size[b] < len(members))
                    self.same(three_at(bench, name, place), three)
                    self.same(inner_points(bench, name, place), tuple(sorted(inner)))
                    self.same(partners_at(bench, name, place), partners)
                    bent += bool(partners)
                    if not partners:
                        straight.append(place)
                self.same(straight_places(bench, name), tuple(straight))
                self.same(run_on(bench, name), oracle.longest_row(straight))
        self.assertGreater(bent, 100)

    def test_inner_points_are_all_between(self):
        for bench in SMALL[:24]:
            order = oracle.Order(bench)
            for name, members in oracle.chains(bench).items():
                for place in range(1, len(members) - 1):
                    low, middle, high = members[place - 1:place + 2]
                    inner = [b for b in order.ranks if order.below(low, b) and order.below(b, high) and b != middle]
                    self.same(inner_points(bench, name, place), tuple(sorted(inner)))

    def test_the_range_plays_no_part(self):
        name = ((0, 0), (0, 0))
        for low in range(4):
            bench = cut_to(MIX, low, low)
            self.same(three_at(bench, name, 2), ((1, 0), (2, 0), (2, 1)))
            self.same(inner_points(bench, name, 2), ((1, 1),))
            self.same(partners_at(bench, name, 2), ((1, 1),))
            self.same(straight_places(bench, name), (1,))
            self.same(run_on(bench, name), 1)
            self.same(bench_run(bench), 1)

    def test_refusals(self):
        name = ((0, 0), (0, 0))
        placed = (three_at, inner_points, partners_at)
        for thing in ODD + (((0, 0), (0, 2)), ((0, 0), (0, False)), [(0, 0), (0, 0)]):
            for call in placed:
                self.fails(NotUsable, {"word": "name", "at": -1}, call, MIX, thing, 1)
                self.fails(NotUsable, {"word": "name", "at": -1}, call, place=None, name=thing, bench=MIX)
            self.fails(NotUsable, {"word": "name", "at": -1}, straight_places, MIX, thing)
            self.fails(NotUsable, {"word": "name", "at": -1}, run_on, name=thing, bench=MIX)
        for place in NO_NUMBERS + (0, 3, 4, 10 ** 60 - 1):
            for call in placed:
                self.fails(NotUsable, {"word": "place", "at": -1}, call, MIX, name, place)
                self.fails(NotUsable, {"word": "place", "at": -1}, call, place=place, name=name, bench=MIX)
        for call in placed:
            self.fails(NotUsable, {"word": "place", "at": -1}, call, MIX, ((0, 0), (0, 1)), 1)
            self.fails(NotUsable, {"word": "place", "at": -1}, call, NONE, (), 0)

    def test_no_slots(self):
        self.same(straight_places(NONE, ()), ())
        self.same(run_on(NONE, ()), 0)

    def test_long(self):
        rng = random.Random(9)
        for bench in LONG:
            name, size = random_name(rng, bench)
            best = run_on(bench, name)
            self.same(best, oracle.longest_row(straight_places(bench, name)))
            self.assertLessEqual(best, bench_run(bench))
            if size > 2:
                low, middle, high = three_at(bench, name, 1)
                self.same(middle in inner_points(bench, name, 1), False)
        straight = straight_places(LONG_LADDERS, ((0, 0),) * 60)
        self.same(straight, tuple(place for place in range(1, 3780) if place % 63))
        self.same(run_on(LONG_LADDERS, ((0, 0),) * 60), 62)
        self.same(inner_points(LONG_LADDERS, ((0, 0),) * 60, 63), ((62,) + (1,) + (0,) * 58,))
        self.same(straight_places(LONG_SWITCHES, ((0, 0),) * 60), ())


class Runs(Case):
    def test_greatest_run_on_any_name(self):
        for bench in SMALL + random_benches(23, 15, 100, 100):
            self.same(bench_run(bench), max(run_on(bench, name) for name in oracle.chains(bench)))
            self.same(bench_run(bench), max([oracle.chart_run(chart) for chart in bench[0]], default=0))

    def test_names_without_hooks(self):
        for bench in SMALL:
            for name in oracle.chains(bench):
                if not any(hook for _, hook in name):
                    best = 0
                    for chart, (index, _) in zip(bench[0], name):
                        size = {level: len(row) for row in chart[1] for level in row}
                        row = chart[1][index]
                        below = oracle.level_below(chart)
                        straight = [
                            at for at in range(1, len(row) - 1)
                            if not [b for b in size if size[b] < len(row) and b != row[at]
                                    and (row[at - 1], b) in below and (b, row[at + 1]) in below]
                        ]
                        best = max(best, oracle.longest_row(straight))
                    self.same(run_on(bench, name), best)

    def test_fixed(self):
        self.same(bench_run(NONE), 0)
        self.same(bench_run(TWO), 0)
        self.same(bench_run(MIX), 1)
        self.same(bench_run(((PICK, ring(4), flat(3)), 0, 0, 1)), 0)
        self.same(bench_run(((ladder(7), DIAL), 2, 3, 1)), 5)
        self.same(bench_run(bench=((pick(1), SWITCH), 0, 0, 1)), 1)
        self.same(bench_run(LONG_LADDERS), 62)
        self.same(bench_run(LONG_FLATS), 0)
        self.same(bench_run(LONG_RINGS), 0)
        self.same(bench_run(LONG_MIX), 62)

    def test_changed_benches(self):
        for bench in SMALL + [LONG_MIX]:
            run = bench_run(bench)
            order = tuple(reversed(range(len(bench[0]))))
            self.same(bench_run(turned(bench)), run)
            self.same(bench_run(reordered(bench, order)), run)
            self.same(bench_run(beside(bench, 3)), run)

    def test_sizes(self):
        for bench in SMALL:
            for name, members in oracle.chains(bench).items():
                self.same(size_of(bench, name), len(members))
        self.same(bench_run(((SWITCH,), 0, 1, 1)), 0)
