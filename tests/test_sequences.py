"""Point 48: other sequences of tests, and what they show."""

import itertools
import random

from stubbornest.coursechecker import lets_course
from stubbornest.errors import NotUsable
from stubbornest.sequences import course_by, shown_after
from tests.cases import Case
from tests.samples import DIAL, NONE, ODD, SWITCH, SWITCH_DOWN, TWO
from tests.test_tables import NO_TABLES
from tests.worlds import WORLDS

F = (0, 0, 0, 1)
NO_POINTS = (
    None, [(0, 1)], ((0, 1), (0, 2)), ((0, 1), (0, True)), ((0, 1), [0, 1]), (0, 1), ((0, 1), None), ((0, 0, 0),), "", 0,
    True, ((0, 1), ()), "01", {(0, 1): 0},
) + tuple(thing for thing in ODD if thing != ())


def sequences(world, rng):
    """Some sequences of points, with points that come several times."""
    yield ()
    if len(world.points) <= 4:
        for many in range(1, len(world.points) + 1):
            yield from itertools.permutations(world.points, many)
    for _ in range(6):
        yield tuple(rng.choice(world.points) for _ in range(rng.randint(1, 2 * len(world.points))))
        yield tuple(rng.sample(world.points, len(world.points)))


class Sequences(Case):
    def test_examples(self):
        self.same(course_by(TWO, F, ((0, 1), (0, 0), (1, 1), (0, 1))), (((0, 1), 0), ((1, 1), 1)))
        self.same(shown_after(TWO, F, ((0, 1), (0, 1), (1, 1), (1, 0), (0, 0))), 4)

    def test_of_all_tables(self):
        rng = random.Random(48)
        for world in WORLDS:
            for table in world.tables[::max(1, len(world.tables) // 12)]:
                rim = world.rim(table)
                for points in sequences(world, rng):
                    course, shown = [], None
                    for number, point in enumerate(points):
                        if world.at[point] in world.unsettled(course):
                            course.append((point, table[world.at[point]]))
                        if shown is None and not world.unsettled(course):
                            shown = number + 1
                    self.same(course_by(world.bench, table, points), tuple(course))
                    self.same(shown_after(world.bench, table, points), shown)
                    holding = [n for n in range(len(points) + 1) if rim <= {world.at[x] for x in points[:n]}]
                    self.same(shown, holding[0] if holding else None)
                    if shown is not None:
                        self.same(lets_course(world.bench, (tuple(course), table)), len(course))

    def test_short_ones(self):
        self.same(course_by(TWO, F, ()), ())
        self.same(shown_after(points=(), table=F, bench=TWO), None)
        self.same(shown_after(TWO, F, ((0, 1), (1, 1))), None)
        self.same(course_by(points=((0, 1), (0, 1)), table=F, bench=TWO), (((0, 1), 0),))
        self.same(course_by(NONE, (1,), ((), (), ())), (((), 1),))
        self.same(shown_after(NONE, (1,), ((), (), ())), 1)
        self.same(shown_after(TWO, (1, 1, 1, 1), ((1, 1), (0, 0), (0, 1))), 2)

    def test_long_ones(self):
        points = ((0, 1),) * 198 + ((1, 0), (1, 1))
        self.same(course_by(TWO, F, points), (((0, 1), 0), ((1, 0), 0), ((1, 1), 1)))
        self.same(shown_after(TWO, F, points), 200)

    def test_refusals(self):
        for call in (course_by, shown_after):
            for table in NO_TABLES + ODD:
                self.fails(NotUsable, {"word": "table", "at": -1}, call, TWO, table, ((0, 1),))
                self.fails(NotUsable, {"word": "table", "at": -1}, call, TWO, table, None)
            for points in NO_POINTS:
                self.fails(NotUsable, {"word": "points", "at": -1}, call, TWO, F, points)
                self.fails(NotUsable, {"word": "points", "at": -1}, call, points=points, table=F, bench=TWO)
            cut = ((DIAL, SWITCH), 1, 2, 1)
            self.fails(NotUsable, {"word": "points", "at": -1}, call, cut, F, ((1, 1), (0, 0)))
            self.same(call(((SWITCH_DOWN,), 0, 1, 1), (1, 0), ((0,),)) in (None, (((0,), 1),)), True)
