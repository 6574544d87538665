import random

from stubbornest.charts import height_of, is_below, partners_of, place_of, ranks_of, run_of
from stubbornest.errors import NotUsable
from stubbornest.shapes import dial, flat, ladder, pick, ring, switch
from stubbornest.turning import turned, turned_chart
from tests import oracle
from tests.cases import Case
from tests.samples import (
    DIAL, DIAL_MIXED, LONG, LOOSE, NO_NUMBERS, ONE_LEVEL, PAIRS, PICK, SMALL, SWITCH, SWITCH_DOWN, random_chart,
)

NAMED = [SWITCH, DIAL, PICK, PAIRS, LOOSE, ONE_LEVEL, SWITCH_DOWN, DIAL_MIXED, ring(2), ring(4), flat(3), ladder(6)]


def some_charts():
    rng = random.Random(11)
    return NAMED + [random_chart(rng, rng.randint(1, 6), 4) for _ in range(60)]


class Shapes(Case):
    def test_fixed(self):
        self.same(switch(), SWITCH)
        self.same(dial(), DIAL)
        self.same(pick(3), PICK)
        self.same(pick(1), DIAL)
        self.same(ladder(2), SWITCH)
        self.same(ladder(3), DIAL)
        self.same(ladder(1), ONE_LEVEL)
        self.same(flat(1), ONE_LEVEL)
        self.same(flat(2), (((), ()), ((0,), (1,))))
        self.same(ring(2), (((), (0,), (0,), (1, 2), (1, 2), (3, 4)), ((0, 1, 3, 5), (2, 4))))
        self.same(
            ring(3),
            (((), (0,), (0,), (0,), (1, 2), (2, 3), (1, 3), (4, 5, 6)), ((0, 1, 4, 7), (2, 5), (3, 6))),
        )

    def test_by_their_words(self):
        for many in range(1, 63):
            lowers, chains = pick(many)
            self.same(lowers, ((),) + ((0,),) * many + (tuple(range(1, many + 1)),))
            self.same(chains, ((0, 1, many + 1),) + tuple((make,) for make in range(2, many + 1)))
        for many in range(2, 32):
            lowers, chains = ring(many)
            self.same(lowers[0], ())
            self.same(lowers[-1], tuple(range(many + 1, 2 * many + 1)))
            self.assertEqual(len(lowers), 2 * many + 2)
            for corner in range(1, many + 1):
                self.same(lowers[corner], (0,))
                self.same(lowers[many + corner], tuple(sorted((corner, corner % many + 1))))
            first = ((0, 1, many + 1, 2 * many + 1),)
            self.same(chains, first + tuple((corner, many + corner) for corner in range(2, many + 1)))
        for many in range(1, 65):
            self.same(flat(many), (((),) * many, tuple((level,) for level in range(many))))
            self.same(ladder(many)[0], ((),) + tuple((level,) for level in range(many - 1)))
            self.same(ladder(many)[1], (tuple(range(many)),))

    def test_refusals(self):
        for call, least, most in ((pick, 1, 62), (ring, 2, 31), (flat, 1, 64), (ladder, 1, 64)):
            for many in NO_NUMBERS + (least - 1, most + 1, 10 ** 60 - 1):
                self.fails(NotUsable, {"word": "many", "at": -1}, call, many)
            self.fails(NotUsable, {"word": "many", "at": -1}, call, many=None)
            call(many=least)
            call(most)


class Charts(Case):
    def test_example(self):
        self.same(partners_of(PICK, 0, 1), (2, 3))

    def test_by_definition(self):
        for chart in some_charts():
            lowers, chains = chart
            ranks = oracle.level_ranks(chart)
            below = oracle.level_below(chart)
            self.same(height_of(chart), max(len(row) for row in chains) - 1)
            self.same(ranks_of(chart), tuple(ranks[level] for level in range(len(lowers))))
            for level in range(len(lowers)):
                index, place = place_of(chart, level)
                self.same((index, place), place_of(level=level, chart=chart))
                self.same(chains[index][place], level)
                for other in range(len(lowers)):
                    self.same(is_below(chart, level, other), (level, other) in below)
            self.same(run_of(chart), oracle.chart_run(chart))

    def test_partners_by_definition(self):
        bent = 0
        for chart in some_charts():
            below = oracle.level_below(chart)
            size = {level: len(row) for row in chart[1] for level in row}
            for index, row in enumerate(chart[1]):
                for place in range(1, len(row) - 1):
                    low, middle, high = row[place - 1:place + 2]
                    partners = tuple(
                        b for b in sorted(size)
                        if b != middle and (low, b) in below and (b, high) in below and size[b] < len(row)
                    )
                    self.same(partners_of(chart, index, place), partners)
                    bent += bool(partners)
        self.assertGreater(bent, 20)

    def test_no_partners_on_chains_of_the_same_size(self):
        self.same(partners_of(PAIRS, 0, 1), ())
        self.same(partners_of(PAIRS, 1, 1), ())
        self.same(run_of(PAIRS), 1)

    def test_runs(self):
        for many in range(1, 65):
            self.same(run_of(ladder(many)), max(0, many - 2))
            self.same(run_of(flat(many)), 0)
        for many in range(2, 63):
            self.same(run_of(pick(many)), 0)
        for many in range(2, 32):
            self.same(run_of(ring(many)), 0)
        self.same(run_of(pick(1)), 1)
        # The bent three at place 3 parts the straight ones at the places 1, 2 and 4, 5.
        parted = (((), (0,), (1,), (2,), (3, 7), (4,), (5,), (2,)), ((0, 1, 2, 3, 4, 5, 6), (7,)))
        self.same(partners_of(parted, 0, 3), (7,))
        self.same(run_of(parted), 2)

    def test_refusals(self):
        for level in NO_NUMBERS + (5, 10 ** 60 - 1):
            self.fails(NotUsable, {"word": "level", "at": -1}, place_of, PICK, level)
            self.fails(NotUsable, {"word": "one", "at": -1}, is_below, PICK, level, 0)
            self.fails(NotUsable, {"word": "other", "at": -1}, is_below, PICK, 0, level)
            self.fails(NotUsable, {"word": "one", "at": -1}, is_below, PICK, level, level)
            self.fails(NotUsable, {"word": "one", "at": -1}, is_below, PICK, other=None, one=level)
        for index in NO_NUMBERS + (3, 10 ** 60 - 1):
            self.fails(NotUsable, {"word": "index", "at": -1}, partners_of, PICK, index, 1)
            self.fails(NotUsable, {"word": "index", "at": -1}, partners_of, place=None, index=index, chart=PICK)
        for place in NO_NUMBERS + (0, 2, 3, 10 ** 60 - 1):
            self.fails(NotUsable, {"word": "place", "at": -1}, partners_of, PICK, 0, place)
        self.fails(NotUsable, {"word": "place", "at": -1}, partners_of, PICK, 1, 0)
        self.fails(NotUsable, {"word": "place", "at": -1}, partners_of, SWITCH, 0, 1)


class Turning(Case):
    def test_fixed(self):
        self.same(turned_chart(SWITCH), SWITCH_DOWN)
        self.same(turned_chart(PICK), (((1, 2, 3), (4,), (4,), (4,), ()), ((2,), (3,), (4, 1, 0))))
        self.same(turned(((DIAL, SWITCH), 0, 1, 2)), ((turned_chart(DIAL), SWITCH_DOWN), 2, 3, 2))
        self.same(turned(((), 0, 0, 3)), ((), 0, 0, 3))

    def test_by_definition(self):
        for chart in some_charts():
            upside = turned_chart(chart)
            self.same(oracle.direct(upside) == {(y, x) for x, y in oracle.direct(chart)}, True)
            self.same(upside[1], tuple(sorted(row[::-1] for row in chart[1])))
            self.same(turned_chart(upside), chart)
            self.same(run_of(upside), run_of(chart))
            self.same(height_of(upside), height_of(chart))

    def test_benches(self):
        for bench in SMALL + LONG:
            upside = turned(bench)
            self.same(turned(bench=upside), bench)
        for bench in SMALL:
            self.same(oracle.points(turned(bench)), oracle.points(bench))
