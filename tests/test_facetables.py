"""Point 41: tables of a face, and tables filled out."""

from stubbornest.changes import cut_to, face_of
from stubbornest.errors import NotUsable
from stubbornest.facetables import face_table, filled_out
from stubbornest.rims import rim_of
from stubbornest.tablekinds import is_table
from tests import oracle
from tests.cases import Case
from tests.samples import MIX, NONE, NO_NUMBERS, ODD, PICK, SWITCH, SWITCH_DOWN, TWO, WARN
from tests.test_tables import NO_TABLES
from tests.worlds import WORLDS, World


def faces(world):
    """The triples (slot, level, world of the face) of all faces that have points."""
    for slot in range(len(world.bench[0])):
        for level in sorted({point[slot] for point in world.points}):
            yield slot, level, World(face_of(world.bench, slot, level))


def put(point, slot, level):
    return point[:slot] + (level,) + point[slot:]


class Faces(Case):
    def test_examples(self):
        self.same(filled_out(((PICK, SWITCH), 0, 3, 1), 0, 2, (0, 1)), (0, 0, 0, 0, 0, 1, 0, 0, 1, 1))

    def test_of_all_tables(self):
        for world in WORLDS:
            for slot, level, face in faces(world):
                for table in world.tables[::2]:
                    wanted = tuple(table[world.at[put(point, slot, level)]] for point in face.points)
                    self.same(face_table(world.bench, slot, level, table), wanted)
                    self.assertIn(wanted, face.tables)

    def test_filled_out(self):
        for world in WORLDS:
            for slot, level, face in faces(world):
                below = oracle.level_below(world.bench[0][slot])
                for table in face.tables[::2]:
                    told = filled_out(world.bench, slot, level, table)
                    for point, grade in zip(world.points, told):
                        if point[slot] == level:
                            self.same(grade, table[face.at[point[:slot] + point[slot + 1:]]])
                        else:
                            self.same(grade, world.top if (level, point[slot]) in below else 0)
                    self.same(is_table(world.bench, told), True)
                    self.same(face_table(world.bench, slot, level, told), table)
                    rim = rim_of(world.bench, told)
                    for point in rim_of(face.bench, table):
                        self.assertIn(put(point, slot, level), rim)

    def test_by_name(self):
        self.same(face_table(table=(0, 1, 1, 2), level=1, slot=0, bench=WARN), (1, 2))
        self.same(filled_out(table=(1, 2), level=0, slot=1, bench=WARN), (1, 2, 2, 2))
        down = ((SWITCH_DOWN, SWITCH), 0, 2, 3)
        self.same(filled_out(down, 0, 1, (1, 2)), (3, 3, 1, 2))
        self.same(face_table(down, 0, 1, (3, 3, 1, 2)), (1, 2))

    def test_refused_slots_and_levels(self):
        for call, table in ((face_table, (0, 0, 0, 1)), (filled_out, (0, 1))):
            for slot in NO_NUMBERS + (2, 10 ** 60 - 1):
                self.fails(NotUsable, {"word": "slot", "at": -1}, call, TWO, slot, 0, table)
                self.fails(NotUsable, {"word": "slot", "at": -1}, call, TWO, slot, None, None)
                self.fails(NotUsable, {"word": "slot", "at": -1}, call, table=table, level=0, slot=slot, bench=TWO)
            for level in NO_NUMBERS + (2, 10 ** 60 - 1):
                self.fails(NotUsable, {"word": "level", "at": -1}, call, TWO, 1, level, table)
                self.fails(NotUsable, {"word": "level", "at": -1}, call, TWO, 1, level, None)
                self.fails(NotUsable, {"word": "level", "at": -1}, call, table=table, level=level, slot=1, bench=TWO)
            self.fails(NotUsable, {"word": "slot", "at": -1}, call, NONE, 0, 0, (0,))
            # A level that no point of the bench has there.
            self.fails(NotUsable, {"word": "level", "at": -1}, call, cut_to(MIX, 0, 0), 1, 1, (0,))

    def test_refused_tables(self):
        for table in NO_TABLES + ODD:
            self.fails(NotUsable, {"word": "table", "at": -1}, face_table, TWO, 0, 1, table)
            self.fails(NotUsable, {"word": "table", "at": -1}, face_table, table=table, level=1, slot=0, bench=TWO)
        for table in ODD + ((0, 0, 0, 1), (0,), (1, 0), (0, 2), [0, 1], (0, True)):
            self.fails(NotUsable, {"word": "table", "at": -1}, filled_out, TWO, 0, 1, table)
            self.fails(NotUsable, {"word": "table", "at": -1}, filled_out, table=table, level=1, slot=0, bench=TWO)
