from stubbornest.benches import (
    height, how_many_full, is_under, lower_points, number_of, points_of, rank_of, upper_points, whole,
)
from stubbornest.errors import NotUsable
from stubbornest.shapes import ladder
from tests import oracle
from tests.cases import Case
from tests.samples import (
    DIAL, HUGE, LONG, LONG_LADDERS, LONG_MIX, MIX, NO_NUMBERS, NONE, ODD, PICK, SMALL, SWITCH, TWO, WARN,
)


class Benches(Case):
    def test_the_examples_of_the_document(self):
        self.same(points_of(TWO), ((0, 0), (0, 1), (1, 0), (1, 1)))
        self.same(points_of(WARN), ((0, 0), (0, 1), (1, 0), (1, 1)))
        self.same(whole((SWITCH, SWITCH), 1), TWO)
        self.same(whole((DIAL, SWITCH), 1), MIX)
        self.same(lower_points(MIX, (1, 1)), ((0, 1), (1, 0)))

    def test_by_definition(self):
        for bench in SMALL:
            order = oracle.Order(bench)
            full = oracle.full_points(bench)
            self.same(height(bench), oracle.height(bench))
            self.same(how_many_full(bench), len(full))
            for one in full:
                self.same(rank_of(bench, one), order.ranks[one])
                for other in full[::3]:
                    self.same(is_under(bench, one, other), order.under(one, other))
                    self.same(is_under(other=one, one=other, bench=bench), order.under(other, one))

    def test_points_by_definition(self):
        for bench in SMALL:
            order = oracle.Order(bench)
            inside = oracle.points(bench)
            self.same(points_of(bench), tuple(inside))
            for number, point in enumerate(inside):
                self.same(number_of(bench, point), number)
                self.same(lower_points(bench, point), tuple(x for x in inside if order.directly(x, point)))
                self.same(upper_points(bench, point), tuple(x for x in inside if order.directly(point, x)))

    def test_whole(self):
        for bench in SMALL + LONG:
            self.same(whole(bench[0], bench[3]), (bench[0], 0, height(bench), bench[3]))
        self.same(whole(top=4, charts=()), ((), 0, 0, 4))

    def test_no_slots(self):
        self.same(points_of(NONE), ((),))
        self.same(height(NONE), 0)
        self.same(how_many_full(NONE), 1)
        self.same(rank_of(NONE, ()), 0)
        self.same(number_of(NONE, ()), 0)
        self.same(is_under(NONE, (), ()), True)
        self.same(lower_points(NONE, ()), ())
        self.same(upper_points(NONE, ()), ())

    def test_one_rank(self):
        bench = ((DIAL, SWITCH), 1, 1, 1)
        self.same(points_of(bench), ((0, 1), (1, 0)))
        self.same(lower_points(bench, (0, 1)), ())
        self.same(upper_points(bench, (0, 1)), ())

    def test_long(self):
        self.same(height(LONG_LADDERS), 3780)
        self.same(how_many_full(LONG_LADDERS), 64 ** 60)
        self.same(rank_of(LONG_LADDERS, (63, 1) * 30), 64 * 30)
        self.same(is_under(LONG_LADDERS, (5,) * 60, (5,) * 59 + (6,)), True)
        self.same(is_under(LONG_LADDERS, (5,) * 60, (6,) * 59 + (4,)), False)
        self.same(height(LONG_MIX), 10 * (63 + 2 + 3 + 0 + 1 + 2))
        self.same(whole((ladder(64),) * 60, HUGE), LONG_LADDERS)


class Refusals(Case):
    def test_full_points(self):
        cut = ((DIAL, SWITCH), 2, 2, 1)
        self.same(rank_of(cut, (0, 0)), 0)
        self.same(is_under(cut, (0, 0), (2, 1)), True)
        for thing in ODD + ((0,), (3, 0), (0, 2)):
            self.fails(NotUsable, {"word": "point", "at": -1}, rank_of, cut, thing)
            self.fails(NotUsable, {"word": "one", "at": -1}, is_under, cut, thing, thing)
            self.fails(NotUsable, {"word": "other", "at": -1}, is_under, cut, (0, 0), thing)
            self.fails(NotUsable, {"word": "one", "at": -1}, is_under, cut, other=(0, 0), one=thing)

    def test_points(self):
        cut = ((DIAL, SWITCH), 2, 2, 1)
        for thing in ODD + ((0,), (3, 0), (0, 0), (2, 1), (1, True)):
            for call in (number_of, lower_points, upper_points):
                self.fails(NotUsable, {"word": "point", "at": -1}, call, cut, thing)
                self.fails(NotUsable, {"word": "point", "at": -1}, call, point=thing, bench=cut)

    def test_whole(self):
        good = (SWITCH, PICK)
        for charts in ODD + (list(good), (SWITCH, None), (SWITCH, ()), SWITCH, good + (((), ()),)):
            self.fails(NotUsable, {"word": "charts", "at": -1}, whole, charts, 1)
            self.fails(NotUsable, {"word": "charts", "at": -1}, whole, charts, 0)
        for top in NO_NUMBERS + (0,):
            self.fails(NotUsable, {"word": "top", "at": -1}, whole, good, top)
            self.fails(NotUsable, {"word": "top", "at": -1}, whole, top=top, charts=())
