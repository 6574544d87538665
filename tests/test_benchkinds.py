from stubbornest.benchkinds import is_bench, is_chart, is_full, is_point, is_rule
from stubbornest.errors import NotUsable
from tests import oracle
from tests.cases import Case
from tests.samples import (
    DIAL, HUGE, LONG, LONG_LADDERS, MIX, NO_NUMBERS, NONE, ODD, ONE_LEVEL, PICK, SMALL, SWITCH, TWO, WARN,
)


class BenchKinds(Case):
    def test_is_chart(self):
        for chart in (SWITCH, DIAL, PICK, ONE_LEVEL):
            self.same(is_chart(chart), True)
            self.same(is_chart(list(chart)), False)
            self.same(is_chart(chart + ((),)), False)
            self.same(is_chart((chart[1], chart[0])), False)
        for thing in ODD:
            self.same(is_chart(thing), False)
        self.same(is_chart(thing=SWITCH), True)

    def test_benches(self):
        for bench in SMALL + LONG:
            self.same(is_bench(bench), True)
        for bench in SMALL:
            charts, low, high, top = bench
            tall = oracle.height(bench)
            near = (
                list(bench), bench[:3], bench + (1,), (list(charts), low, high, top), (charts, low, high, 0),
                (charts, high + 1, high, top), (charts, low, tall + 1, top), (charts, -1, high, top),
                (charts, low, high, -1), (charts, low, high, True), (charts, False, high, top),
                (charts, low, None, top), (charts, low, True, top), (charts, "0", high, top), (charts, low, high, (1,)),
                (charts + (None,), low, high, top), (charts + ((),), low, high, top), (None, low, high, top),
                (charts + ((((), (0,)), ((0,), (1,))),), low, high, top), (charts, low, 10 ** 60 - 1, top),
            )
            for thing in near:
                self.same(is_bench(thing), False, thing)

    def test_odd_benches(self):
        for thing in ODD:
            self.same(is_bench(thing), False)
            self.same(is_bench((thing, 0, 0, 1)), thing == ())
        self.same(is_bench(((SWITCH,) * 70, 0, 70, 1)), True)
        self.same(is_bench(NONE), True)
        self.same(is_bench(((), 0, 0, HUGE)), True)
        self.same(is_bench(((), 0, 1, 1)), False)
        self.same(is_bench(thing=TWO), True)

    def test_full_and_points(self):
        for bench in SMALL:
            inside = oracle.points(bench)
            for point in oracle.full_points(bench):
                self.same(is_full(bench, point), True)
                self.same(is_point(bench, point), point in inside)
                for thing in (list(point), point + (0,), (point,), (-1,) + point[1:], tuple(bool(x) for x in point)):
                    if thing != () and (thing != point or point):
                        self.same(is_full(bench, thing), False, thing)
                        self.same(is_point(bench, thing), False, thing)

    def test_levels_that_there_are_not(self):
        for bench in SMALL:
            for slot, chart in enumerate(bench[0]):
                for level in (len(chart[0]), 10 ** 60 - 1, -1, True, False, None, "0", (0,), [0]):
                    point = [0] * len(bench[0])
                    point[slot] = level
                    self.same(is_full(bench, tuple(point)), False, point)
                    self.same(is_point(bench, tuple(point)), False, point)

    def test_odd_points(self):
        for bench in (TWO, MIX, ((ONE_LEVEL,) * 9, 0, 0, 1)):
            for thing in ODD:
                good = thing == (0,) * 9 and len(bench[0]) == 9
                self.same(is_full(bench, thing), good, thing)
                self.same(is_point(bench, thing), good, thing)
        self.same(is_full(NONE, ()), True)
        self.same(is_point(NONE, ()), True)
        self.same(is_full(NONE, []), False)
        self.same(is_point(thing=(0, 0), bench=TWO), True)

    def test_long(self):
        self.same(is_full(LONG_LADDERS, (63,) * 60), True)
        self.same(is_full(LONG_LADDERS, (64,) * 60), False)
        cut = LONG_LADDERS[:1] + (5, 7, HUGE)
        for step, good in ((4, False), (5, True), (7, True), (8, False)):
            self.same(is_point(cut, (0,) * 59 + (step,)), good)

    def test_rules(self):
        for word in ("all", "each", "low"):
            for top in (1, 2, HUGE):
                for wrongs in (0, 1, 9, HUGE):
                    self.same(is_rule(top, (word, wrongs)), True)
        self.same(is_rule(1, ("yes", 0)), True)
        self.same(is_rule(1, ("yes", HUGE)), True)
        self.same(is_rule(2, ("yes", 0)), False)
        self.same(is_rule(HUGE, ("yes", 1)), False)

    def test_no_rules(self):
        near = (
            ("all",), ("all", 0, 0), ["all", 0], ("All", 0), ("", 0), ("no", 0), ("al", 0), ("all ", 0), ("all", -1),
            ("all", True), ("all", False), ("all", None), ("all", "0"), (0, "all"), (("all",), 0), (["all"], 0),
            (None, 0), (True, 0), ("yes", True), "al", ("all", (0,)),
        )
        for thing in near + ODD:
            self.same(is_rule(1, thing), False, thing)
            self.same(is_rule(thing=thing, top=3), False, thing)

    def test_rules_refuse_a_top(self):
        for top in NO_NUMBERS + (0,):
            for thing in (("all", 0), None):
                self.fails(NotUsable, {"word": "top", "at": -1}, is_rule, top, thing)
        self.same(is_rule(WARN[3], ("low", 2)), True)
