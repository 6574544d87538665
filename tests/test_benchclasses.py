from stubbornest.benchclasses import Bench
from stubbornest.benches import points_of
from stubbornest.changes import cut_to, face_of, grown
from stubbornest.errors import NotUsable
from tests import oracle
from tests.cases import Case
from tests.samples import DIAL, MIX, NO_NUMBERS, NONE, ODD, PICK, SMALL, SWITCH, TWO, WARN


class Benches(Case):
    def test_example(self):
        self.same((0, True) in Bench(TWO), False)

    def test_as_told(self):
        for bench in SMALL:
            one = Bench(bench)
            inside = oracle.points(bench)
            self.same(one.told(), bench)
            self.same(len(one), len(inside))
            self.same(list(one), inside)
            self.same(list(one), inside)
            for point in oracle.full_points(bench):
                self.same(point in one, point in inside)
            for thing in ODD:
                self.same(thing in one, thing in [()] * (bench[0] == ()) + [(0,) * 9] * (len(bench[0]) == 9), thing)
            self.same(one in one, False)
            self.same(Bench(bench=bench).told(), bench)

    def test_equal(self):
        for bench in SMALL[:12]:
            for other in SMALL[:12]:
                self.same(Bench(bench) == Bench(other), bench == other)
                self.same(Bench(bench) != Bench(other), bench != other)
            for thing in ODD + (bench, points_of(bench)):
                self.same(Bench(bench) == thing, False)
                self.same(thing == Bench(bench), False)

    def test_no_slots(self):
        one = Bench(NONE)
        self.same((len(one), list(one), () in one, [] in one), (1, [()], True, False))

    def test_changes(self):
        for bench in (TWO, WARN, MIX, ((DIAL, SWITCH), 1, 2, 1)):
            one = Bench(bench)
            self.same(one.cut(1, 2).told(), cut_to(bench, 1, 2))
            self.same(one.cut(high=1, low=0).told(), cut_to(bench, 0, 1))
            self.same(one.face(0, 1).told(), face_of(bench, 0, 1))
            self.same(one.face(level=0, slot=1).told(), face_of(bench, 1, 0))
            self.same(one.grow(PICK).told(), grown(bench, PICK))
            self.same(one.grow(chart=SWITCH).told(), grown(bench, SWITCH))
            self.same(list(one.grow(SWITCH)), oracle.points(grown(bench, SWITCH)))
            self.same(isinstance(one.cut(1, 1), Bench), True)
            self.same(one.told(), bench)
            self.same(list(one), oracle.points(bench))

    def test_refusals(self):
        one = Bench(MIX)
        for thing in NO_NUMBERS + (9,):
            self.fails(NotUsable, {"word": "low", "at": -1}, one.cut, thing, thing)
            self.fails(NotUsable, {"word": "high", "at": -1}, one.cut, 0, thing)
            self.fails(NotUsable, {"word": "slot", "at": -1}, one.face, thing, thing)
            self.fails(NotUsable, {"word": "level", "at": -1}, one.face, 0, thing)
            self.fails(NotUsable, {"word": "chart", "at": -1}, one.grow, thing)
            self.fails(NotUsable, {"word": "chart", "at": -1}, one.grow, chart=thing)
        self.fails(NotUsable, {"word": "high", "at": -1}, one.cut, low=2, high=1)
        self.fails(NotUsable, {"word": "level", "at": -1}, one.cut(0, 0).face, 1, 1)
        self.same(one.told(), MIX)
        self.same(list(one), oracle.points(MIX))
