"""Point 39: the most stubborn table, and tables changed at one point."""

from stubbornest.errors import NotUsable
from stubbornest.layers import weight_of
from stubbornest.rims import rim_of
from stubbornest.stubborn import changed, stubborn_table
from stubbornest.tablekinds import is_table
from stubbornest.thresholds import threshold_table
from stubbornest.shapes import flat, ladder, pick
from tests import oracle
from tests.cases import Case
from tests.samples import MIX, NONE, ODD, SMALL, SWITCH, TWO, WARN, random_benches
from tests.test_tables import NO_TABLES
from tests.worlds import WORLDS, World

# Windows that are not in the middle, that are cut, that leave ranks on both sides.
WIDE = [
    ((ladder(9),), 0, 8, 1), ((ladder(9),), 0, 8, 2), ((ladder(9),), 0, 8, 4), ((ladder(9),), 0, 8, 5), ((ladder(9),), 5, 8, 1),
    ((ladder(9),), 0, 3, 1), ((ladder(9),), 3, 5, 1), ((ladder(9),), 3, 5, 9), ((SWITCH,) * 5, 0, 5, 2), ((flat(5),), 0, 0, 9),
    ((pick(3), pick(4)), 0, 4, 2), ((SWITCH,) * 4, 2, 4, 1),
]


class Stubborn(Case):
    def test_examples(self):
        self.same([stubborn_table(WARN), stubborn_table(MIX)], [(0, 1, 1, 1), (0, 0, 0, 1, 1, 1)])
        self.same(stubborn_table(bench=TWO), (0, 1, 1, 1))
        self.same([stubborn_table(NONE), stubborn_table(((), 0, 0, 3))], [(0,), (0,)])

    def test_by_the_window(self):
        for bench in SMALL + WIDE + random_benches(81, 40, 200, 64):
            ranks = oracle.window(bench, 2 * bench[3])
            first, last = ranks[0], ranks[-1]
            wanted = []
            for point in oracle.points(bench):
                rank = oracle.rank(bench, point)
                if rank < first:
                    wanted.append(0)
                elif rank > last:
                    wanted.append(bench[3])
                else:
                    wanted.append((rank - first + 1) // 2)
            self.same(stubborn_table(bench), tuple(wanted))
            self.same(is_table(bench, tuple(wanted)), True)

    def test_its_rim_is_the_window(self):
        for bench in SMALL + WIDE:
            ranks = oracle.window(bench, 2 * bench[3])
            rim = rim_of(bench, stubborn_table(bench))
            self.same(rim, tuple(point for point in oracle.points(bench) if oracle.rank(bench, point) in ranks))
            self.same(len(rim), weight_of(bench))

    def test_no_rim_is_larger(self):
        for world in WORLDS:
            sizes = [len(world.rim(table)) for table in world.tables]
            self.same(max(sizes), len(world.rim(stubborn_table(world.bench))))
            self.same(max(sizes), weight_of(world.bench))

    def test_its_threshold_tables(self):
        for bench in SMALL + WIDE:
            ranks = oracle.window(bench, 2 * bench[3])
            for grade in range(1, bench[3] + 1):
                least = min(ranks[0] + 2 * grade - 1, ranks[-1] + 1)
                wanted = tuple(int(oracle.rank(bench, point) >= least) for point in oracle.points(bench))
                self.same(threshold_table(bench, stubborn_table(bench), grade), wanted)


class Changed(Case):
    def test_examples(self):
        self.same(changed(TWO, (0, 1, 1, 1), (0, 1)), (0, 0, 1, 1))
        self.same(changed(point=(0, 0), table=(0, 1, 1, 1), bench=TWO), (1, 1, 1, 1))

    def test_at_all_points(self):
        for world in WORLDS:
            for table in world.tables:
                rising, rim = world.raisable(table), world.rim(table)
                for number, point in enumerate(world.points):
                    if number in rim:
                        grade = table[number] + (1 if number in rising else -1)
                        other = table[:number] + (grade,) + table[number + 1:]
                        self.same(changed(world.bench, table, point), other)
                        self.assertIn(other, world.tables)
                    else:
                        self.fails(NotUsable, {"word": "point", "at": -1}, changed, world.bench, table, point)

    def test_raised_where_both_are_possible(self):
        self.same(changed(((), 0, 0, 2), (1,), ()), (2,))
        self.same(changed(((), 0, 0, 2), (2,), ()), (1,))
        self.same(changed(((flat(2),), 0, 0, 3), (2, 3), (0,)), (3, 3))
        self.same(changed(((flat(2),), 0, 0, 3), (2, 3), (1,)), (2, 2))

    def test_refusals(self):
        for table in NO_TABLES + ODD:
            self.fails(NotUsable, {"word": "table", "at": -1}, changed, TWO, table, (0, 0))
            self.fails(NotUsable, {"word": "table", "at": -1}, changed, TWO, table, None)
        for point in ODD + ((0, 2), (False, 0), (0, True), [0, 1], (1, 1)):
            self.fails(NotUsable, {"word": "point", "at": -1}, changed, TWO, (0, 1, 1, 1), point)
            self.fails(NotUsable, {"word": "point", "at": -1}, changed, point=point, table=(0, 1, 1, 1), bench=TWO)
        cut = World(((SWITCH, SWITCH), 1, 2, 1))
        self.fails(NotUsable, {"word": "point", "at": -1}, changed, cut.bench, (0, 0, 1), (0, 0))
