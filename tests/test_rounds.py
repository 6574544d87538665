"""Point 47: rounds, and how many there are at most."""

from stubbornest.errors import NotUsable
from stubbornest.nexttests import next_test
from stubbornest.rounds import next_round, rounds_bound, rounds_of
from stubbornest.shapes import ladder
from tests import oracle
from tests.cases import Case
from tests.samples import (
    DIAL, HUGE, LONG, LONG_FLATS, LONG_LADDERS, LONG_SWITCHES, MIX, NONE, ODD, SMALL, SWITCH, SWITCH_DOWN, TWO, WARN,
)
from tests.test_knowns import NO_KNOWNS, distinct, some_knowns
from tests.test_tables import NO_TABLES
from tests.worlds import WORLDS


def round_by_words(world, known):
    free = world.unsettled(known)
    sizes = [size for size, _, row in world.rows if [x for x in row if world.at[x] in free]]
    found = set()
    for size, name, _ in world.rows:
        if sizes and size == min(sizes):
            for grade in range(1, world.top + 1):
                told = world.stretch(known, name, grade)
                if len(told) == 2:
                    found.update(told)
                elif told:
                    found.add(told[len(told) // 2])
    return tuple(sorted(found))


def halvings(many):
    return 1 if many <= 2 else 1 + halvings(many // 2)


def bound_by_words(bench, rows, run):
    sizes = {len(members): len(inside) for members, inside in rows if inside}
    return sum(halvings(min(inside, run + 2)) for inside in sizes.values())


class Rounds(Case):
    def test_examples(self):
        self.same(next_round(MIX, ()), ((0, 1), (1, 1)))
        self.same(rounds_of(TWO, (0, 0, 0, 1)), ((((0, 1), 0),), (((1, 0), 0), ((1, 1), 1))))

    def test_of_all_tables(self):
        for world in WORLDS:
            for table in world.tables:
                known = ()
                rounds = rounds_of(world.bench, table)
                for told in rounds:
                    points = round_by_words(world, known)
                    self.same(next_round(world.bench, known), points)
                    self.same(told, tuple((point, table[world.at[point]]) for point in points))
                    self.assertIn(next_test(world.bench, known), points)
                    self.same([point for point in points if point in dict(known)], [])
                    known = distinct(known + told)
                self.same(next_round(world.bench, known), ())
                self.same(world.like(known), [table])
                self.assertLessEqual(len(rounds), rounds_bound(world.bench))
                self.assertLessEqual(len(known), world.long_weight)

    def test_at_other_knowns(self):
        for world in WORLDS:
            for known in list(some_knowns(world))[::9]:
                known = distinct(known)
                told = next_round(known=known, bench=world.bench)
                self.same(told, round_by_words(world, known))
                self.same(told == (), not world.unsettled(known))

    def test_long_stretches_and_two_grades(self):
        wide = ((ladder(8),), 0, 7, 1)
        self.same(next_round(wide, ()), ((4,),))
        self.same(next_round(wide, (((4,), 1),)), ((2,),))
        self.same(next_round(wide, (((2,), 0), ((4,), 1))), ((3,),))
        self.same(next_round(((ladder(2),), 0, 1, 1), ()), ((0,), (1,)))
        # The stretches of both grades are in the same round.
        self.same(next_round(((ladder(8),), 0, 7, 2), (((3,), 1),)), ((1,), (6,)))
        self.same(rounds_of(table=(0, 0, 1, 1), bench=((ladder(4),), 0, 3, 1)), ((((2,), 1),), (((0,), 0), ((1,), 0))))

    def test_no_slots_and_one_rank(self):
        self.same(next_round(NONE, ()), ((),))
        self.same(rounds_of(NONE, (1,)), ((((), 1),),))
        self.same(rounds_of(((DIAL, SWITCH_DOWN), 1, 1, 2), (2, 0)), ((((0, 0), 2),), (((1, 1), 0),)))

    def test_refusals(self):
        for known in NO_KNOWNS:
            self.fails(NotUsable, {"word": "known", "at": -1}, next_round, WARN, known)
            self.fails(NotUsable, {"word": "known", "at": -1}, next_round, known=known, bench=WARN)
        for table in NO_TABLES + ODD:
            self.fails(NotUsable, {"word": "table", "at": -1}, rounds_of, TWO, table)
            self.fails(NotUsable, {"word": "table", "at": -1}, rounds_of, table=table, bench=TWO)


class Bounds(Case):
    def test_examples(self):
        self.same((rounds_bound(TWO), rounds_bound(MIX)), (2, 3))
        self.same(rounds_bound(bench=NONE), 1)

    def test_by_the_chains(self):
        for bench in SMALL:
            inside = set(oracle.points(bench))
            rows = [(members, [x for x in members if x in inside]) for members in oracle.chains(bench).values()]
            run = max([oracle.chart_run(chart) for chart in bench[0]], default=0)
            self.same(rounds_bound(bench), bound_by_words(bench, rows, run))

    def test_one_ladder(self):
        # The run is two less than the levels, so the whole chain counts.
        for many in range(2, 65):
            self.same(rounds_bound(((ladder(many),), 0, many - 1, 1)), halvings(many))
        self.same(rounds_bound(((ladder(64),), 10, 15, 1)), 3)

    def test_long(self):
        # Sixty switches: no run, so each stretch has at most two points and takes one round.
        self.same(rounds_bound(LONG_SWITCHES), 31)
        self.same(rounds_bound(((SWITCH,) * 60, 30, 30, HUGE)), 31)
        self.same(rounds_bound(((SWITCH,) * 60, 0, 3, HUGE)), 4)
        self.same(rounds_bound(LONG_FLATS), 1)
        # Chains of 1, 3, 5 and so on up to 3781 levels; the run is 62.
        self.same(rounds_bound(LONG_LADDERS), sum(halvings(min(m, 64)) for m in range(1, 3782, 2)))
        for bench in LONG:
            self.assertGreater(rounds_bound(bench), 0)
