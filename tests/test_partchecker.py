from stubbornest.errors import InvalidPaper, NotUsable
from stubbornest.layers import spread_of
from stubbornest.partchecker import lets_parting
from stubbornest.partpapers import part_paper
from tests import oracle
from tests.cases import Case
from tests.samples import DIAL, HUGE, MIX, NO_NUMBERS, NONE, ODD, SMALL, SWITCH, TWO, random_benches

GOOD = (((0, 1),), ((0, 0), (1, 0), (1, 1)))

# For TWO: thing, word, at.
FAULTS = (
    (None, "shape", -1),
    ([((0, 1),)], "shape", -1),
    ("", "shape", -1),
    (0, "shape", -1),
    ((((0, 1),), None), "chain", 1),
    ((((0, 1),), ()), "chain", 1),
    (([(0, 1)],), "chain", 0),
    ((True,), "chain", 0),
    (("ab",), "chain", 0),
    (((0, 1),), "point", (0, 0)),
    ((((0, 1),), ((0, 0), (0, 2))), "point", (1, 1)),
    ((((0, 1),), ((0, 0), [1, 0])), "point", (1, 1)),
    ((((0, 1),), ((0, 0), (True, 0))), "point", (1, 1)),
    ((((0, 1),), ((0, 0), (0, 0, 0))), "point", (1, 1)),
    ((((0, 1),), ((0, 0), None)), "point", (1, 1)),
    ((((0, 1),), ((0, 0), (0, 1))), "twice", (1, 1)),
    ((((0, 1), (0, 1)),), "twice", (0, 1)),
    ((((0, 0), (1, 0), (0, 0)),), "twice", (0, 2)),
    ((((0, 1),), ((0, 1),)), "twice", (1, 0)),
    ((((0, 1), (1, 0)),), "step", (0, 1)),
    ((((0, 1), (0, 0)),), "step", (0, 1)),
    ((((0, 0),), ((1, 0), (1, 1), (0, 1))), "step", (1, 2)),
    ((), "lacking", 0),
    (GOOD[:1], "lacking", 0),
    (GOOD[1:], "lacking", 1),
    ((((0, 0), (0, 1)), ((1, 0),)), "lacking", 3),
    ((((0, 1),), ((0, 0), (1, 1))), "lacking", 2),
)

# Several at once: row by row, member by member, the stated sequence at each, "lacking" at last.
SEVERAL = (
    ((((0, 1), (0, 2)), None), "point", (0, 1)),
    ((((0, 1), (1, 0)), None), "step", (0, 1)),
    ((None, ((0, 2),)), "chain", 0),
    ((((0, 1), (0, 0), (0, 1)),), "step", (0, 1)),
    ((((0, 1), (0, 1), (0, 2)),), "twice", (0, 1)),
    ((((0, 0), (1, 1), (0, 0), None),), "twice", (0, 2)),
    ((((0, 0),), ()), "chain", 1),
    ((((1, 1), (9, 9)),), "point", (0, 1)),
)


class Partings(Case):
    def test_examples(self):
        self.same(lets_parting(TWO, 2, GOOD), 3)
        thing = (((0, 1),), ((0, 0), (1, 1)))
        self.fails(InvalidPaper, {"word": "lacking", "at": 2}, lets_parting, TWO, 1, thing)

    def test_each_entry(self):
        for thing, word, at in FAULTS + SEVERAL:
            for many in (0, 1, HUGE):
                self.fails(InvalidPaper, {"word": word, "at": at}, lets_parting, TWO, many, thing)
            self.fails(InvalidPaper, {"word": word, "at": at}, lets_parting, thing=thing, many=2, bench=TWO)

    def test_points_outside_of_the_range(self):
        cut = ((DIAL, SWITCH), 1, 2, 1)
        self.same(lets_parting(cut, 9, part_paper(cut)), 4)
        thing = (((0, 1), (1, 1), (2, 1)), ((1, 0), (2, 0)))
        self.fails(InvalidPaper, {"word": "point", "at": (0, 2)}, lets_parting, cut, 9, thing)
        self.same(lets_parting(MIX, 9, ((((0, 0),) + thing[0]), thing[1])), 6)

    def test_steps_may_be_long(self):
        thing = (((0, 0), (2, 1)), ((0, 1), (2, 0)), ((1, 0),), ((1, 1),))
        self.fails(InvalidPaper, {"word": "step", "at": (1, 1)}, lets_parting, MIX, 1, thing)
        thing = (((0, 0), (2, 1)), ((1, 0), (2, 0)), ((0, 1), (1, 1)))
        self.same([lets_parting(MIX, many, thing) for many in (0, 1, 2, 3)], [0, 3, 6, 6])

    def test_own_papers_tell_the_spread(self):
        for bench in SMALL + random_benches(51, 20, 150, 64):
            for many in (0, 1, 2, 3, 4, 7, HUGE):
                self.same(lets_parting(bench, many, part_paper(bench)), spread_of(bench, many))

    def test_single_points(self):
        for bench in SMALL:
            inside = oracle.points(bench)
            thing = tuple((point,) for point in reversed(inside))
            self.same(lets_parting(bench, 1, thing), len(inside))
            self.same(lets_parting(bench, 0, thing), 0)
            if len(inside) > 1:
                lacking = {"word": "lacking", "at": len(inside) - 1}
                self.fails(InvalidPaper, lacking, lets_parting, bench, 1, thing[1:])
            twice = {"word": "twice", "at": (len(inside), 0)}
            self.fails(InvalidPaper, twice, lets_parting, bench, 1, thing + thing[:1])

    def test_no_slots(self):
        self.same(lets_parting(NONE, 3, (((),),)), 1)
        self.fails(InvalidPaper, {"word": "lacking", "at": 0}, lets_parting, NONE, 3, ())
        self.fails(InvalidPaper, {"word": "chain", "at": 0}, lets_parting, NONE, 3, ((),))

    def test_refusals(self):
        for many in NO_NUMBERS:
            for thing in (GOOD, None, ()):
                self.fails(NotUsable, {"word": "many", "at": -1}, lets_parting, TWO, many, thing)
                self.fails(NotUsable, {"word": "many", "at": -1}, lets_parting, thing=thing, many=many, bench=TWO)

    def test_odd_values(self):
        bench = ((SWITCH,), 0, 1, 1)
        for thing in ODD:
            self.assertIn(self.raised(lets_parting, bench, 1, thing).word, ("shape", "chain", "point", "lacking"))
            self.fails(InvalidPaper, {"word": "point", "at": (0, 1)}, lets_parting, bench, 1, (((0,), thing),))
