"""Point 42: tables as objects."""

from stubbornest.changes import cut_to, face_of
from stubbornest.errors import NotUsable
from stubbornest.facetables import face_table
from stubbornest.rims import rim_of
from stubbornest.stubborn import changed
from stubbornest.tableclasses import Table
from stubbornest.tablepapers import table_paper
from stubbornest.tables import grade_at, greater, lesser, turned_table
from stubbornest.turning import turned
from tests.cases import Case
from tests.samples import MIX, NONE, NO_NUMBERS, ODD, SWITCH, TWO, WARN
from tests.test_tables import NO_TABLES
from tests.worlds import WORLDS


class Tables(Case):
    def test_example(self):
        one = Table(TWO, (0, 1, 1, 1))
        self.same(one.change((0, 1)), None)
        told = (one.grades(), one.rim(), list(one & Table(TWO, (0, 1, 0, 1)))[3])
        self.same(told, ((0, 0, 1, 1), ((0, 1), (1, 0)), ((1, 1), 1)))

    def test_as_the_functions(self):
        for world in WORLDS:
            bench = world.bench
            for table in world.tables[::3]:
                one = Table(bench, table)
                self.same(one.grades(), table)
                self.same(one.rim(), rim_of(bench, table))
                self.same(one.paper(), table_paper(bench, table))
                self.same([one.grade_of(point) for point in world.points], [grade_at(bench, table, x) for x in world.points])
                self.same(list(one), list(zip(world.points, table)))
                upside = one.upside_down()
                self.same(upside == Table(turned(bench), turned_table(bench, table)), True)
                self.same(upside.upside_down() == one, True)
                self.same(one.grades(), table)

    def test_faces(self):
        for world in WORLDS:
            for table in world.tables[::5]:
                one = Table(world.bench, table)
                for slot in range(len(world.bench[0])):
                    for level in {point[slot] for point in world.points}:
                        face = one.face(slot, level)
                        wanted = face_table(world.bench, slot, level, table)
                        self.same(face == Table(face_of(world.bench, slot, level), wanted), True)
                        self.same(face.grades(), wanted)
                self.same(list(one), list(zip(world.points, table)))
        self.same(Table(WARN, (0, 1, 1, 2)).face(level=1, slot=1).grades(), (1, 2))

    def test_changes(self):
        for world in WORLDS:
            for table in world.tables[::4]:
                for number, point in enumerate(world.points):
                    one = Table(world.bench, table)
                    answers = iter(one)
                    if number not in world.rim(table):
                        self.fails(NotUsable, {"word": "point", "at": -1}, one.change, point)
                        self.same(one.grades(), table)
                        continue
                    wanted = changed(world.bench, table, point)
                    self.same(one.change(point=point), None)
                    self.same(one.grades(), wanted)
                    self.same(list(one), list(zip(world.points, wanted)))
                    self.same(one.rim(), rim_of(world.bench, wanted))
                    self.same(one == Table(world.bench, wanted), True)
                    self.same(one == Table(world.bench, table), False)
                    # What was asked for before is not touched.
                    self.same(list(answers), list(zip(world.points, table)))

    def test_lesser_and_greater(self):
        for world in WORLDS:
            some = world.tables[::max(1, len(world.tables) // 6)]
            for table in some:
                for other in some:
                    one, two = Table(world.bench, table), Table(world.bench, other)
                    both, either = one & two, one | two
                    self.same(both == Table(world.bench, lesser(world.bench, table, other)), True)
                    self.same(either == Table(world.bench, greater(world.bench, table, other)), True)
                    self.same((one.grades(), two.grades()), (table, other))
                    self.same([thing is one or thing is two for thing in (both, either)], [False, False])

    def test_no_table_of_an_equal_bench(self):
        one = Table(TWO, (0, 1, 1, 1))
        for other in ODD + ((0, 1, 1, 1), Table(WARN, (0, 1, 1, 1)), Table(cut_to(TWO, 0, 1), (0, 1, 1)), TWO):
            self.fails(NotUsable, {"word": "other", "at": -1}, lambda: one & other)
            self.fails(NotUsable, {"word": "other", "at": -1}, lambda: one | other)
        same = ((SWITCH, (((), (0,)), ((0, 1),))), 0, 2, 1)
        self.same((one & Table(same, (0, 0, 0, 1))).grades(), (0, 0, 0, 1))

    def test_equal(self):
        some = [(world.bench, table) for world in WORLDS[:9] for table in world.tables[::3]]
        for one in some:
            for other in some:
                self.same(Table(*one) == Table(*other), one == other)
                self.same(Table(*one) != Table(*other), one != other)
            for thing in ODD + (one, one[1], list(Table(*one))):
                self.same(Table(*one) == thing, False)
                self.same(Table(*one) != thing, True)
                self.same(thing == Table(*one), False)

    def test_any_value_in_it(self):
        for world in WORLDS[:12]:
            for table in world.tables[::4]:
                one = Table(world.bench, table)
                for point, grade in zip(world.points, table):
                    for other in range(world.top + 1):
                        self.same((point, other) in one, other == grade)
                for thing in ODD + (one, table, world.bench):
                    self.same(thing in one, False)
        one = Table(TWO, (0, 0, 1, 1))
        for thing in (((1, 0), True), ((0, 0), False), ((True, 0), 1), ((1, False), 1), [(1, 0), 1], ((1, 0), 1, 1)):
            self.same(thing in one, False)
        self.same(((1, 0), 1) in one, True)

    def test_no_slots(self):
        one = Table(bench=NONE, table=(0,))
        self.same((list(one), one.rim(), one.paper()), ([((), 0)], ((),), ((((), 0),), (0,))))
        one.change(())
        self.same((one.grades(), one.upside_down().grades()), ((1,), (0,)))

    def test_refusals(self):
        for table in NO_TABLES + ODD:
            self.fails(NotUsable, {"word": "table", "at": -1}, Table, TWO, table)
            self.fails(NotUsable, {"word": "table", "at": -1}, Table, table=table, bench=TWO)
        one = Table(MIX, (0, 0, 0, 1, 1, 1))
        for point in ODD + ((2, 2), (0, True), [0, 0], (0, False)):
            self.fails(NotUsable, {"word": "point", "at": -1}, one.grade_of, point)
            self.fails(NotUsable, {"word": "point", "at": -1}, one.grade_of, point=point)
            self.fails(NotUsable, {"word": "point", "at": -1}, one.change, point)
        for slot in NO_NUMBERS + (2,):
            self.fails(NotUsable, {"word": "slot", "at": -1}, one.face, slot, None)
        for level in NO_NUMBERS + (3,):
            self.fails(NotUsable, {"word": "level", "at": -1}, one.face, 0, level)
            self.fails(NotUsable, {"word": "level", "at": -1}, one.face, level=level, slot=0)
        self.fails(NotUsable, {"word": "level", "at": -1}, Table(cut_to(MIX, 0, 0), (1,)).face, 1, 1)
        self.same(one.grades(), (0, 0, 0, 1, 1, 1))
