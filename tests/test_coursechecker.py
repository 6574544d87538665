"""Point 49: papers of courses, and the checker of courses of anybody."""

import itertools

from stubbornest.coursechecker import lets_course
from stubbornest.coursepapers import course_paper
from stubbornest.errors import InvalidPaper, NotUsable
from stubbornest.plancourses import plan_course
from stubbornest.sequences import course_by
from tests.cases import Case
from tests.samples import NONE, ODD, SWITCH, SWITCH_DOWN, TWO, WARN
from tests.test_tables import NO_TABLES
from tests.worlds import WORLDS

F = (0, 0, 0, 1)
A, B, C, D = ((0, 0), 0), ((0, 1), 0), ((1, 0), 0), ((1, 1), 1)

# For TWO: thing, word, at.
FAULTS = (
    (None, "shape", -1),
    ([(B, C, D), F], "shape", -1),
    (((B, C, D),), "shape", -1),
    (((B, C, D), F, F), "shape", -1),
    ((), "shape", -1),
    ("pq", "shape", -1),
    (((B, C, D), (0, 1, 0, 0)), "table", -1),
    (((B, C, D), [0, 0, 0, 1]), "table", -1),
    (((B, C, D), (0, 0, 0, True)), "table", -1),
    (((B, C, D), (0, 0, 0, 2)), "table", -1),
    (([B, C, D], F), "course", -1),
    ((None, F), "course", -1),
    (("", F), "course", -1),
    (((B, None, D), F), "answer", 1),
    (((B, C, list(D)), F), "answer", 2),
    (((((0, True), 0), C, D), F), "answer", 0),
    (((B, C, ((1, 1), True)), F), "answer", 2),
    (((B, C, ((1, 1), 2)), F), "answer", 2),
    (((B, C, ((1, 2), 1)), F), "answer", 2),
    (((B, C, ((1, 1), 1, 1)), F), "answer", 2),
    (((B, C, ((1, 1), 0)), F), "grade", 2),
    (((((0, 1), 1), C, D), F), "grade", 0),
    (((B, B, C, D), F), "idle", 1),
    (((B, A, C, D), F), "idle", 1),
    (((D, B, C, D), F), "idle", 3),
    (((D, B, C, A), F), "idle", 3),
    (((), F), "open", 0),
    (((B, D), F), "open", 2),
    (((D, A), F), "open", 1),
    (((C, B), F), "open", 3),
)

# Several at once: in the stated sequence, answer by answer.
SEVERAL = (
    ((None, None), "table", -1),
    (([B], (0, 0, 0)), "table", -1),
    (((((0, 1), 1), None), F), "grade", 0),
    (((None, ((0, 1), 1)), F), "answer", 0),
    (((B, ((0, 0), 1), None), F), "grade", 1),
    (((B, B, None), F), "idle", 1),
    (((D, ((1, 1), 0), None), F), "grade", 1),
    (((B, A, ((1, 1), 0)), F), "idle", 1),
)


class Papers(Case):
    def test_examples(self):
        thing = ((((0, 1), 0), ((0, 0), 0)), F)
        self.fails(InvalidPaper, {"word": "idle", "at": 1}, lets_course, TWO, thing)

    def test_of_all_tables(self):
        for world in WORLDS:
            for table in world.tables:
                paper = course_paper(world.bench, table)
                self.same(paper, (plan_course(world.bench, table), table))
                many = lets_course(world.bench, paper)
                self.same(many, len(paper[0]))
                self.assertLessEqual(len(world.rim(table)), many)
                short = (paper[0][:-1], table)
                at = min(world.unsettled(paper[0][:-1]))
                self.fails(InvalidPaper, {"word": "open", "at": at}, lets_course, world.bench, short)

    def test_any_sequence(self):
        for world in WORLDS:
            if len(world.points) <= 4:
                for table in world.tables[::2]:
                    for points in itertools.permutations(world.points):
                        paper = (course_by(world.bench, table, points), table)
                        self.same(lets_course(thing=paper, bench=world.bench), len(paper[0]))

    def test_each_entry(self):
        for thing, word, at in FAULTS + SEVERAL:
            self.fails(InvalidPaper, {"word": word, "at": at}, lets_course, TWO, thing)
            self.fails(InvalidPaper, {"word": word, "at": at}, lets_course, thing=thing, bench=TWO)
        self.same(lets_course(TWO, ((D, C, B), F)), 3)
        self.same(lets_course(TWO, ((A, C, B, D), F)), 4)

    def test_odd_values(self):
        for thing in ODD:
            self.assertIn(self.raised(lets_course, WARN, thing).word, ("shape", "table"))
            self.assertIn(self.raised(lets_course, WARN, (thing, F)).word, ("course", "answer", "open"))
            self.fails(InvalidPaper, {"word": "answer", "at": 0}, lets_course, WARN, ((thing,), F))

    def test_no_slots_one_rank_other_levels(self):
        self.same(lets_course(NONE, ((((), 1),), (1,))), 1)
        self.fails(InvalidPaper, {"word": "idle", "at": 1}, lets_course, NONE, ((((), 1), ((), 1)), (1,)))
        self.same(lets_course(((SWITCH, SWITCH), 1, 1, 2), ((((1, 0), 2), ((0, 1), 0)), (0, 2))), 2)
        down = ((SWITCH_DOWN,), 0, 1, 2)
        self.same(lets_course(down, ((((0,), 1), ((1,), 0)), (1, 0))), 2)
        self.same(lets_course(down, ((((1,), 1), ((0,), 2)), (2, 1))), 2)
        self.fails(InvalidPaper, {"word": "idle", "at": 1}, lets_course, down, ((((1,), 2), ((0,), 2)), (2, 2)))

    def test_refusals(self):
        for table in NO_TABLES + ODD:
            self.fails(NotUsable, {"word": "table", "at": -1}, course_paper, TWO, table)
            self.fails(NotUsable, {"word": "table", "at": -1}, course_paper, table=table, bench=TWO)
