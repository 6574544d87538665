"""What point 11 guarantees of chains, spreads, weights, faces and tables, held against slow searches."""

from stubbornest.benches import height
from stubbornest.changes import face_of
from stubbornest.counts import long_weight
from stubbornest.layers import weight_of
from stubbornest.listings import names_of
from stubbornest.members import members_of
from stubbornest.runs import bench_run
from stubbornest.tables import tables_of
from stubbornest.thresholds import threshold_table
from tests import oracle
from tests.cases import Case
from tests.games import Game
from tests.samples import SMALL, random_benches
from tests.worlds import TINY, World

FEW = [bench for bench in SMALL if (bench[3] + 1) ** len(oracle.points(bench)) <= 2000]


def raisable(bench, order, inside, table):
    return [
        i for i, one in enumerate(inside)
        if table[i] < bench[3] and all(table[j] > table[i] for j, other in enumerate(inside) if order.below(one, other))
    ]


def lowerable(order, inside, table):
    return [
        i for i, one in enumerate(inside)
        if table[i] > 0 and all(table[j] < table[i] for j, other in enumerate(inside) if order.below(other, one))
    ]


def rim(bench, order, inside, table):
    return set(raisable(bench, order, inside, table)) | set(lowerable(order, inside, table))


class Chains(Case):
    def test_they_part_the_full_points(self):
        for bench in SMALL + random_benches(61, 40, 200, 200):
            order = oracle.Order(bench)
            rows = [members_of(bench, name) for name in names_of(bench)]
            self.same(sorted(point for row in rows for point in row), oracle.full_points(bench))
            for row in rows:
                ranks = [order.ranks[point] for point in row]
                first = (height(bench) + 1 - len(row)) // 2
                self.same(ranks, list(range(first, first + len(row))))
                self.same(2 * first, height(bench) + 1 - len(row))
                for one, other in zip(row, row[1:]):
                    self.same(order.directly(one, other), True)

    def test_parted_by_chains(self):
        for bench in SMALL:
            inside = set(oracle.points(bench))
            counts = [len(inside.intersection(members_of(bench, name))) for name in names_of(bench)]
            for many in range(6):
                self.same(sum(min(many, count) for count in counts), oracle.spread(bench, many))


class Faces(Case):
    def test_none_is_greater(self):
        for bench in SMALL + random_benches(62, 30, 200, 200):
            for slot in range(len(bench[0])):
                for level in {point[slot] for point in oracle.points(bench)}:
                    face = face_of(bench, slot, level)
                    self.assertLessEqual(weight_of(face), weight_of(bench))
                    self.assertLessEqual(long_weight(face), long_weight(bench))
                    self.assertLessEqual(bench_run(face), bench_run(bench))

    def test_none_needs_more_tests(self):
        for world in TINY:
            for rule in world.rules((0, 1)):
                if len(world.tables) <= (12, 6)[rule[1]]:
                    number = Game(world, rule).least_number()
                    for slot in range(len(world.bench[0])):
                        for level in {point[slot] for point in world.points}:
                            face = World(face_of(world.bench, slot, level))
                            self.assertLessEqual(Game(face, rule).least_number(), number)


class Rims(Case):
    def test_rims(self):
        for bench in FEW:
            order = oracle.Order(bench)
            inside = oracle.points(bench)
            plain = bench[:3] + (1,)
            tables = list(tables_of(bench))
            sizes = []
            for table in tables:
                whole_rim = rim(bench, order, inside, table)
                sizes.append(len(whole_rim))
                rows = [threshold_table(bench, table, grade) for grade in range(1, bench[3] + 1)]
                self.same(set().union(*[rim(plain, order, inside, row) for row in rows]) == whole_rim, True)
                for chosen in (whole_rim, *[whole_rim - {at} for at in whole_rim]):
                    like = [other for other in tables if all(other[at] == table[at] for at in chosen)]
                    self.same(like == [table], chosen == whole_rim)
            self.same(max(sizes), weight_of(bench))

    def test_tables_are_told_by_their_rims(self):
        for bench in FEW:
            order = oracle.Order(bench)
            inside = oracle.points(bench)
            for table in tables_of(bench):
                upper = raisable(bench, order, inside, table)
                lower = lowerable(order, inside, table)
                for i, one in enumerate(inside):
                    most = [table[j] for j in upper if order.under(one, inside[j])]
                    least = [table[j] for j in lower if order.under(inside[j], one)]
                    self.same(min(most, default=bench[3]), table[i])
                    self.same(max(least, default=0), table[i])
