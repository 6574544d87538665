import itertools

from stubbornest.benches import height, points_of
from stubbornest.benchkinds import is_bench
from stubbornest.changes import beside, cut_to, face_of, grown, reordered
from stubbornest.errors import NotUsable
from stubbornest.shapes import flat, ladder
from tests import oracle
from tests.cases import Case
from tests.samples import (
    DIAL, LONG_LADDERS, LONG_MIX, LONG_SWITCHES, MIX, NO_NUMBERS, NONE, ODD, PICK, SMALL, SWITCH, TWO, WARN,
)


class Changes(Case):
    def test_examples(self):
        self.same(face_of(MIX, 0, 1), ((SWITCH,), 0, 1, 1))
        self.fails(NotUsable, {"word": "level", "at": -1}, face_of, cut_to(MIX, 0, 0), 1, 1)

    def test_reordered(self):
        charts = (SWITCH, DIAL, PICK)
        for order in itertools.permutations(range(3)):
            wanted = (tuple(charts[slot] for slot in order), 1, 4, 2)
            self.same(reordered((charts, 1, 4, 2), order), wanted)
            self.same(reordered(order=order, bench=(charts, 1, 4, 2)), wanted)
        self.same(reordered(NONE, ()), NONE)
        turn = tuple(range(59, -1, -1))
        self.same(reordered(LONG_MIX, turn)[0], LONG_MIX[0][::-1])

    def test_cut_to(self):
        for bench in SMALL:
            for low in range(height(bench) + 1):
                for high in range(low, height(bench) + 1):
                    self.same(cut_to(bench, low, high), (bench[0], low, high, bench[3]))
        self.same(cut_to(high=3780, low=3780, bench=LONG_LADDERS), LONG_LADDERS[:1] + (3780,) + LONG_LADDERS[2:])

    def test_grown(self):
        self.same(grown(TWO, DIAL), ((SWITCH, SWITCH, DIAL), 0, 4, 1))
        self.same(grown(((DIAL, SWITCH), 1, 2, 3), flat(2)), ((DIAL, SWITCH, flat(2)), 1, 2, 3))
        self.same(grown(chart=PICK, bench=NONE), ((PICK,), 0, 2, 1))
        fewer = (LONG_LADDERS[0][1:], 7, 3717, 5)
        self.same(grown(fewer, ladder(64)), (LONG_LADDERS[0], 7, 3780, 5))

    def test_beside(self):
        for many in (1, 2, 64):
            self.same(beside(WARN, many), ((SWITCH, SWITCH, flat(many)), 0, 2, 2))
        self.same(beside(many=5, bench=NONE), ((flat(5),), 0, 0, 1))

    def test_faces_by_definition(self):
        for bench in SMALL:
            for slot, chart in enumerate(bench[0]):
                for level in range(len(chart[0])):
                    inside = [point for point in oracle.points(bench) if point[slot] == level]
                    if inside:
                        face = face_of(bench, slot, level)
                        self.same(is_bench(face), True)
                        self.same(face, face_of(level=level, slot=slot, bench=bench))
                        self.same(face[0], bench[0][:slot] + bench[0][slot + 1:])
                        self.same(face[3], bench[3])
                        self.same(points_of(face), tuple(point[:slot] + point[slot + 1:] for point in inside))
                    else:
                        self.fails(NotUsable, {"word": "level", "at": -1}, face_of, bench, slot, level)

    def test_ranges_of_faces(self):
        bench = ((DIAL, PICK, SWITCH), 2, 4, 1)
        self.same(face_of(bench, 0, 0)[1:], (2, 3, 1))
        self.same(face_of(bench, 0, 1)[1:], (1, 3, 1))
        self.same(face_of(bench, 0, 2)[1:], (0, 2, 1))
        self.same(face_of(((DIAL,), 1, 1, 1), 0, 1), ((), 0, 0, 1))
        self.same(face_of(LONG_SWITCHES, 59, 1)[1:3], (0, 59))

    def test_refused_orders(self):
        bench = ((SWITCH, DIAL, PICK), 0, 5, 1)
        near = ((0, 1), (0, 1, 1), (0, 1, 2, 2), (0, 1, 2, 3), (1, 2, 3), [0, 1, 2], (0, True, 2), (0, 1, "2"), (0, 1, -1))
        for order in near + ODD:
            self.fails(NotUsable, {"word": "order", "at": -1}, reordered, bench, order)
        self.fails(NotUsable, {"word": "order", "at": -1}, reordered, order=[], bench=NONE)

    def test_refused_ranges(self):
        for low in NO_NUMBERS + (4,):
            self.fails(NotUsable, {"word": "low", "at": -1}, cut_to, MIX, low, 3)
            self.fails(NotUsable, {"word": "low", "at": -1}, cut_to, MIX, low, low)
            self.fails(NotUsable, {"word": "low", "at": -1}, cut_to, high=None, low=low, bench=MIX)
        for high in NO_NUMBERS + (4, 1):
            self.fails(NotUsable, {"word": "high", "at": -1}, cut_to, MIX, 2, high)

    def test_refused_charts(self):
        for chart in ODD + (list(SWITCH), (SWITCH,), SWITCH + ((),)):
            self.fails(NotUsable, {"word": "chart", "at": -1}, grown, TWO, chart)
            self.fails(NotUsable, {"word": "chart", "at": -1}, grown, chart=chart, bench=NONE)

    def test_refused_faces(self):
        for slot in NO_NUMBERS + (2, 10 ** 60 - 1):
            self.fails(NotUsable, {"word": "slot", "at": -1}, face_of, MIX, slot, 0)
            self.fails(NotUsable, {"word": "slot", "at": -1}, face_of, level=None, slot=slot, bench=MIX)
        self.fails(NotUsable, {"word": "slot", "at": -1}, face_of, NONE, 0, 0)
        for level in NO_NUMBERS + (2, 10 ** 60 - 1):
            self.fails(NotUsable, {"word": "level", "at": -1}, face_of, MIX, 1, level)

    def test_refused_beside(self):
        for many in NO_NUMBERS + (0, 65, 10 ** 60 - 1):
            self.fails(NotUsable, {"word": "many", "at": -1}, beside, TWO, many)
            self.fails(NotUsable, {"word": "many", "at": -1}, beside, many=many, bench=TWO)
