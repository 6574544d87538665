"""Point 38: floors, ceilings, unsettled points, open points, knowns of tables."""

import itertools

from stubbornest.errors import NotUsable
from stubbornest.knowns import ceiling_of, floor_of, known_of, open_for, unsettled_points
from stubbornest.tablekinds import is_known, is_table
from tests.cases import Case
from tests.samples import DIAL, NO_NUMBERS, ODD, SWITCH, TWO, WARN
from tests.test_tables import NO_TABLES
from tests.worlds import WORLDS

ONE, OTHER = ((0, 0), 0), ((0, 1), 1)
NO_KNOWNS = (
    [ONE, OTHER], (OTHER, ONE), (ONE, ONE), (ONE, ((0, 0), 1)), (((0, 0), 1), OTHER, ((1, 0), 0)), ONE, (ONE, None),
    (ONE, list(OTHER)), (ONE, ((0, 1), True)), (ONE, ((0, 1), 3)), (ONE, ((0, 2), 1)), (ONE, ((0, True), 1)),
    (((0, 0), 1), ((0, 1), 0)), (((0, 0), 1), ((1, 1), 0)), "known", ((ONE,),),
) + tuple(thing for thing in ODD if thing != ())
NO_SETS = (
    None, [], [(0, 0)], ((0, 1), (0, 0)), ((0, 0), (0, 0)), ((0, 0), (0, 2)), ((0, 0), (0, True)), ((0, 0), [0, 1]), (0, 0),
    ((0, 0), None), ((0, 0, 0),), "", 0, True, ((0, 0), ()), ((0, 0), "01"),
)


def some_knowns(world):
    """All knowns of a very small bench, else those of some tables at some points."""
    if (world.top + 2) ** len(world.points) <= 700:
        for chosen in itertools.product([None] + list(range(world.top + 1)), repeat=len(world.points)):
            known = tuple((point, grade) for point, grade in zip(world.points, chosen) if grade is not None)
            if world.like(known):
                yield known
    else:
        for number, table in enumerate(world.tables[::4]):
            for size in range(0, len(world.points), 2):
                yield world.known(table, [(number * 5 + at * 3) % len(world.points) for at in range(size)])


def distinct(known):
    return tuple(sorted(dict(known).items()))


class Knowns(Case):
    def test_examples(self):
        self.same(ceiling_of(WARN, (((0, 1), 1),)), (1, 1, 2, 2))
        self.same(open_for(WARN, (((0, 1), 1),), 2), ((1, 0), (1, 1)))

    def test_against_all_tables_with_the_known_grades(self):
        for world in WORLDS:
            bench = world.bench
            for known in some_knowns(world):
                known = distinct(known)
                like = world.like(known)
                columns = list(zip(*like))
                floor = tuple(min(column) for column in columns)
                ceiling = tuple(max(column) for column in columns)
                self.same((floor_of(bench, known), ceiling_of(bench, known)), (floor, ceiling))
                self.same((floor, ceiling), (world.floor(known), world.ceiling(known)))
                self.same(floor in like and ceiling in like and is_table(bench, floor), True)
                free = tuple(x for x, low, high in zip(world.points, floor, ceiling) if low != high)
                self.same(unsettled_points(bench, known), free)
                for column, low, high in zip(columns, floor, ceiling):
                    self.same(sorted(set(column)), list(range(low, high + 1)))
                for grade in range(1, world.top + 1):
                    some = tuple(
                        x for x, column in zip(world.points, columns) if min(column) < grade <= max(column)
                    )
                    self.same(open_for(bench, known, grade), some)
                    self.same(open_for(bench, known, grade), tuple(world.open_points(known, grade)))

    def test_nothing_and_all_known(self):
        for world in WORLDS:
            many = len(world.points)
            self.same(floor_of(world.bench, ()), (0,) * many)
            self.same(ceiling_of(known=(), bench=world.bench), (world.top,) * many)
            self.same(unsettled_points(known=(), bench=world.bench), tuple(world.points))
            for grade in range(1, world.top + 1):
                self.same(open_for(grade=grade, known=(), bench=world.bench), tuple(world.points))
            for table in world.tables[::5]:
                known = world.known(table, range(many))
                self.same((floor_of(world.bench, known), ceiling_of(world.bench, known)), (table, table))
                self.same(unsettled_points(world.bench, known), ())

    def test_knowns_of_tables(self):
        for world in WORLDS:
            for number, table in enumerate(world.tables):
                chosen = {(number * at) % len(world.points) for at in range(number % 6)}
                known = known_of(world.bench, table, world.set_of(chosen))
                self.same(known, world.known(table, chosen))
                self.same(is_known(world.bench, known), True)
        self.same(known_of(points=((0, 1), (1, 1)), table=(0, 1, 0, 1), bench=TWO), (((0, 1), 1), ((1, 1), 1)))
        self.same(known_of(TWO, (0, 1, 0, 1), ()), ())

    def test_refused_knowns(self):
        for known in NO_KNOWNS:
            for call in (floor_of, ceiling_of, unsettled_points):
                self.fails(NotUsable, {"word": "known", "at": -1}, call, WARN, known)
                self.fails(NotUsable, {"word": "known", "at": -1}, call, known=known, bench=WARN)
            self.fails(NotUsable, {"word": "known", "at": -1}, open_for, WARN, known, 1)
            self.fails(NotUsable, {"word": "known", "at": -1}, open_for, WARN, known, 0)

    def test_refused_grades(self):
        for grade in NO_NUMBERS + (0, 3, 10 ** 60 - 1):
            self.fails(NotUsable, {"word": "grade", "at": -1}, open_for, WARN, (), grade)
            self.fails(NotUsable, {"word": "grade", "at": -1}, open_for, grade=grade, known=(ONE,), bench=WARN)

    def test_refused_tables_and_points(self):
        for table in NO_TABLES:
            self.fails(NotUsable, {"word": "table", "at": -1}, known_of, TWO, table, ((0, 0),))
            self.fails(NotUsable, {"word": "table", "at": -1}, known_of, TWO, table, None)
        for points in NO_SETS:
            self.fails(NotUsable, {"word": "points", "at": -1}, known_of, TWO, (0, 0, 0, 1), points)
            self.fails(NotUsable, {"word": "points", "at": -1}, known_of, points=points, table=(0, 0, 0, 1), bench=TWO)
        cut = ((DIAL, SWITCH), 1, 2, 1)
        self.fails(NotUsable, {"word": "points", "at": -1}, known_of, cut, (0, 0, 0, 1), ((0, 0),))
