from stubbornest.benches import height, is_under
from stubbornest.benchkinds import is_bench
from stubbornest.chartchecker import lets_chart
from stubbornest.charts import is_below, ranks_of, run_of
from stubbornest.counts import chain_counts, counts_within, long_weight
from stubbornest.folding import folded, folded_bench
from stubbornest.layers import layers_of, weight_of
from stubbornest.listings import chains_of, names_by_size, names_of
from stubbornest.partpapers import part_paper
from stubbornest.runs import bench_run
from stubbornest.shapes import flat
from tests import oracle
from tests.cases import Case
from tests.samples import DIAL, MIX, NONE, ONE_LEVEL, SMALL, SWITCH, TWO, random_benches

MANY = SMALL + random_benches(41, 20, 200, 64)


class Listings(Case):
    def test_examples(self):
        self.same(list(chains_of(TWO)), [((0, 1),), ((0, 0), (1, 0), (1, 1))])
        self.same(names_of(MIX), (((0, 0), (0, 0)), ((0, 0), (0, 1))))

    def test_names(self):
        for bench in MANY:
            rows = oracle.chains(bench)
            inside = set(oracle.points(bench))
            self.same(names_of(bench), tuple(sorted(rows)))
            here = [name for name in rows if inside.intersection(rows[name])]
            self.same(names_by_size(bench=bench), tuple(sorted(here, key=lambda name: (len(rows[name]), name))))

    def test_chains(self):
        for bench in MANY:
            rows = oracle.chains(bench)
            inside = set(oracle.points(bench))
            wanted = [tuple(point for point in rows[name] if point in inside) for name in names_by_size(bench)]
            self.same(list(chains_of(bench)), wanted)
            self.same(list(chains_of(bench=bench)), wanted)
            self.same(part_paper(bench), tuple(wanted))
            self.same(part_paper(bench=bench), tuple(wanted))

    def test_chains_come_one_by_one(self):
        told = chains_of(TWO)
        self.same(iter(told) is told, True)
        self.same(next(told), ((0, 1),))
        self.same(next(told), ((0, 0), (1, 0), (1, 1)))
        with self.assertRaises(StopIteration):
            next(told)

    def test_no_slots(self):
        self.same(names_of(NONE), ((),))
        self.same(names_by_size(NONE), ((),))
        self.same(list(chains_of(NONE)), [((),)])

    def test_names_without_points_of_the_bench(self):
        bench = ((DIAL, SWITCH), 0, 0, 1)
        self.same(names_of(bench), (((0, 0), (0, 0)), ((0, 0), (0, 1))))
        self.same(names_by_size(bench), (((0, 0), (0, 0)),))
        self.same(part_paper(bench), (((0, 0),),))

    def test_many_slots_of_one_level(self):
        bench = ((ONE_LEVEL,) * 59 + (SWITCH,), 0, 1, 1)
        self.same(names_of(bench), (((0, 0),) * 60,))
        self.same(len(part_paper(bench)[0]), 2)


class Folding(Case):
    def test_example(self):
        self.same(folded(TWO), (((), (0,), (0,), (1, 2)), ((0, 2, 3), (1,))))
        self.same(folded_bench(((SWITCH, SWITCH), 1, 2, 5)), ((folded(TWO),), 1, 2, 5))
        self.same(folded(NONE), (((),), ((0,),)))
        self.same(folded_bench(bench=NONE), ((ONE_LEVEL,), 0, 0, 1))
        self.same(folded(((flat(3),), 0, 0, 1)), flat(3))

    def test_by_going_through_all_full_points(self):
        for bench in MANY:
            full = oracle.full_points(bench)
            if len(full) > 64:
                continue
            order = oracle.Order(bench)
            chart = folded(bench=bench)
            for number, point in enumerate(full):
                lower = tuple(at for at, other in enumerate(full) if order.directly(other, point))
                self.same(chart[0][number], lower)
                self.same(ranks_of(chart)[number], order.ranks[point])
            rows = sorted(tuple(full.index(point) for point in row) for row in oracle.chains(bench).values())
            self.same(chart[1], tuple(rows))
            self.same(lets_chart(chart), height(bench))
            self.same(run_of(chart), bench_run(bench))
            for number, point in enumerate(full[::5]):
                for at, other in enumerate(full):
                    below = point != other and is_under(bench, point, other)
                    self.same(is_below(chart, 5 * number, at), below)

    def test_counts_stay(self):
        for bench in MANY:
            if len(oracle.full_points(bench)) > 64:
                continue
            small = folded_bench(bench)
            self.same(is_bench(small), True)
            for call in (layers_of, weight_of, chain_counts, counts_within, long_weight):
                self.same(call(small), call(bench))
