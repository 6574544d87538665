"""Point 40: papers that settle a table, second tables, the checker of such papers."""

import itertools

from stubbornest.errors import InvalidPaper, NotUsable
from stubbornest.tablechecker import lets_paper
from stubbornest.tablepapers import second_table, table_paper
from tests.cases import Case
from tests.samples import NONE, ODD, SWITCH_DOWN, TWO, WARN
from tests.test_knowns import NO_SETS
from tests.test_tables import NO_TABLES
from tests.worlds import WORLDS

F = (0, 0, 0, 1)
A, B, C, D = ((0, 0), 0), ((0, 1), 0), ((1, 0), 0), ((1, 1), 1)

# For TWO: thing, word, at.
FAULTS = (
    (None, "shape", -1),
    ([(B, C, D), F], "shape", -1),
    (((B, C, D),), "shape", -1),
    (((B, C, D), F, F), "shape", -1),
    ((), "shape", -1),
    ("pq", "shape", -1),
    (((B, C, D), (0, 1, 0, 0)), "table", -1),
    (((B, C, D), [0, 0, 0, 1]), "table", -1),
    (((B, C, D), (0, 0, 0, True)), "table", -1),
    (((B, C, D), (0, 0, 0)), "table", -1),
    (((B, C, D), (0, 0, 0, 2)), "table", -1),
    (([B, C, D], F), "known", -1),
    ((None, F), "known", -1),
    (("", F), "known", -1),
    (((B, None, D), F), "answer", 1),
    (((B, C, list(D)), F), "answer", 2),
    (((((0, True), 0), C, D), F), "answer", 0),
    (((B, C, ((1, 1), True)), F), "answer", 2),
    (((B, C, ((1, 1), 2)), F), "answer", 2),
    (((B, C, ((1, 2), 1)), F), "answer", 2),
    (((B, C, ((1, 1), 1, 1)), F), "answer", 2),
    (((C, B, D), F), "answer", 1),
    (((B, B, C, D), F), "answer", 1),
    (((B, C, D, D), F), "answer", 3),
    (((B, C, ((1, 1), 0)), F), "grade", 2),
    (((((0, 0), 1), B, C, D), F), "grade", 0),
    (((), F), "lacking", 1),
    (((B, D), F), "lacking", 2),
    (((A, C, D), F), "lacking", 1),
    (((B, C), F), "lacking", 3),
    (((A,), (1, 1, 1, 1)), "grade", 0),
    ((((((0, 1)), 1),), (1, 1, 1, 1)), "lacking", 0),
)

# Several at once: in the stated sequence, answer by answer.
SEVERAL = (
    ((None, None), "table", -1),
    (([B], (0, 0, 0)), "table", -1),
    (((((0, 1), 1), None), F), "grade", 0),
    (((None, ((0, 1), 1)), F), "answer", 0),
    (((C, ((0, 1), 1)), F), "answer", 1),
    (((B, ((0, 1), 1)), F), "answer", 1),
    (((D, ((1, 1), 0), None), F), "answer", 1),
    (((((1, 1), 0),), F), "grade", 0),
    (((D, None), F), "answer", 1),
)


class Papers(Case):
    def test_examples(self):
        self.same(table_paper(TWO, F), ((B, C, D), F))
        self.fails(InvalidPaper, {"word": "lacking", "at": 2}, lets_paper, TWO, ((B, D), F))

    def test_of_all_tables(self):
        for world in WORLDS:
            for table in world.tables:
                rim = world.rim(table)
                paper = table_paper(world.bench, table)
                self.same(paper, (world.known(table, rim), table))
                self.same(lets_paper(world.bench, paper), len(rim))
                full = (world.known(table, range(len(world.points))), table)
                self.same(lets_paper(thing=full, bench=world.bench), len(world.points))
                for number in rim:
                    short = (world.known(table, set(range(len(world.points))) - {number}), table)
                    self.fails(InvalidPaper, {"word": "lacking", "at": number}, lets_paper, world.bench, short)

    def test_accepted_papers_settle_the_table(self):
        for world in WORLDS:
            if len(world.points) > 6:
                continue
            for table in world.tables[::3]:
                for chosen in itertools.product([True, False], repeat=len(world.points)):
                    numbers = [number for number, yes in enumerate(chosen) if yes]
                    known = world.known(table, numbers)
                    if len(world.like(known)) == 1:
                        self.same(lets_paper(world.bench, (known, table)), len(numbers))
                    else:
                        at = min(world.rim(table) - set(numbers))
                        self.fails(InvalidPaper, {"word": "lacking", "at": at}, lets_paper, world.bench, (known, table))

    def test_each_entry(self):
        for thing, word, at in FAULTS + SEVERAL:
            self.fails(InvalidPaper, {"word": word, "at": at}, lets_paper, TWO, thing)
            self.fails(InvalidPaper, {"word": word, "at": at}, lets_paper, thing=thing, bench=TWO)

    def test_odd_values(self):
        for thing in ODD:
            self.assertIn(self.raised(lets_paper, WARN, thing).word, ("shape", "table"))
            self.assertIn(self.raised(lets_paper, WARN, (thing, (0, 0, 0, 1))).word, ("known", "answer", "lacking"))
            self.fails(InvalidPaper, {"word": "answer", "at": 0}, lets_paper, WARN, ((thing,), (0, 0, 0, 1)))

    def test_no_slots_and_other_levels(self):
        self.same(lets_paper(NONE, ((((), 1),), (1,))), 1)
        self.fails(InvalidPaper, {"word": "lacking", "at": 0}, lets_paper, NONE, ((), (1,)))
        down = ((SWITCH_DOWN,), 0, 1, 1)
        self.same(table_paper(down, (1, 0)), ((((0,), 1), ((1,), 0)), (1, 0)))
        self.fails(InvalidPaper, {"word": "table", "at": -1}, lets_paper, down, ((), (0, 1)))

    def test_refusals(self):
        for table in NO_TABLES + ODD:
            self.fails(NotUsable, {"word": "table", "at": -1}, table_paper, TWO, table)
            self.fails(NotUsable, {"word": "table", "at": -1}, table_paper, table=table, bench=TWO)


class Seconds(Case):
    def test_all_sets_of_points(self):
        for world in WORLDS:
            if len(world.points) > 6:
                continue
            for table in world.tables:
                for chosen in itertools.product([True, False], repeat=len(world.points)):
                    numbers = [number for number, yes in enumerate(chosen) if yes]
                    other = second_table(world.bench, table, world.set_of(numbers))
                    like = [one for one in world.like(world.known(table, numbers)) if one != table]
                    self.same(other is None, not like)
                    self.same(other is None, world.rim(table) <= set(numbers))
                    if other is not None:
                        self.assertIn(other, like)

    def test_by_name(self):
        self.same(second_table(points=((0, 1), (1, 0)), table=F, bench=TWO), (0, 0, 0, 0))
        self.same(second_table(points=((0, 1), (1, 0), (1, 1)), table=F, bench=TWO), None)

    def test_refusals(self):
        for table in NO_TABLES:
            self.fails(NotUsable, {"word": "table", "at": -1}, second_table, TWO, table, ())
            self.fails(NotUsable, {"word": "table", "at": -1}, second_table, TWO, table, None)
        for points in NO_SETS:
            self.fails(NotUsable, {"word": "points", "at": -1}, second_table, TWO, F, points)
            self.fails(NotUsable, {"word": "points", "at": -1}, second_table, points=points, table=F, bench=TWO)
