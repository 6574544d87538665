import copy
import random

from stubbornest import errors
from stubbornest.benchkinds import is_chart
from stubbornest.chartchecker import lets_chart
from stubbornest.errors import InvalidPaper, PaperError, TextError, UseError
from stubbornest.shapes import flat, ladder, pick, ring
from tests.cases import Case
from tests.samples import DIAL, DIAL_MIXED, LOOSE, ODD, ONE_LEVEL, PAIRS, PICK, SWITCH, random_chart

BIG = 10 ** 60 - 1

# Each with the entry that applies first.
FAULTS = (
    # shape
    (((), ()), "shape", -1),
    (((), ((0,),)), "shape", -1),
    ((((),),), "shape", -1),
    (((((),), ((0,),)) + (0,)), "shape", -1),
    ([((),), ((0,),)], "shape", -1),
    (([()], ((0,),)), "shape", -1),
    ((((),), [(0,)]), "shape", -1),
    ((((),), None), "shape", -1),
    (("ab", ((0,),)), "shape", -1),
    # lower
    ((((), (0, 0)), ((0, 1),)), "lower", 1),
    ((((), (1, 0)), ((0, 1),)), "lower", 1),
    ((((), [0]), ((0, 1),)), "lower", 1),
    ((((), (False,)), ((0, 1),)), "lower", 1),
    ((((), (2,)), ((0, 1),)), "lower", 1),
    ((((), (-1,)), ((0, 1),)), "lower", 1),
    ((((), ("0",)), ((0, 1),)), "lower", 1),
    ((((), (None,)), ((0, 1),)), "lower", 1),
    ((((), (BIG,)), ((0, 1),)), "lower", 1),
    (((0, (0,)), ((0, 1),)), "lower", 0),
    (((None, "x"), ((0, 1),)), "lower", 0),
    ((((), "0"), ((0, 1),)), "lower", 1),
    # chain
    ((((), (0,)), ((),)), "chain", 0),
    ((((), (0,)), ((0, 1), ())), "chain", 1),
    ((((), (0,)), ([0, 1],)), "chain", 0),
    ((((), (0,)), ((0, True),)), "chain", 0),
    ((((), (0,)), ((0, 2),)), "chain", 0),
    ((((), (0,)), ((0, BIG),)), "chain", 0),
    ((((), (0,)), (0, 1)), "chain", 0),
    ((((), (0,)), ("01",)), "chain", 0),
    ((((), (0,)), (None,)), "chain", 0),
    ((((), ()), ((1,), (0,))), "chain", 1),
    ((((), ()), ((0,), (0,))), "chain", 1),
    ((((), ()), ((0, 1), (0,))), "chain", 1),
    ((((), (), ()), ((0,), (2,), (1,), None)), "chain", 2),
    # level
    ((((),), ()), "level", 0),
    ((((), ()), ((0,),)), "level", 1),
    ((((), ()), ((0, 0), (1,))), "level", 0),
    ((((), ()), ((0, 1), (1,))), "level", 1),
    ((((), (), ()), ((2,),)), "level", 0),
    # size
    ((((), (0,), ()), ((0, 1), (2,))), "size", 1),
    ((((), (), (1,)), ((0,), (1, 2))), "size", 0),
    ((((), (0,), (1,), (), (3,)), ((0, 1, 2), (3, 4))), "size", 1),
    # rank
    ((((), (0,)), ((0,), (1,))), "rank", (1, 0)),
    ((((0,),), ((0,),)), "rank", (0, 0)),
    ((((1,), (0,)), ((0, 1),)), "rank", (0, 1)),
    ((((), (0,), (0, 1)), ((0, 1, 2),)), "rank", (2, 0)),
    ((((), (), (0, 1), (0, 1)), ((0, 2), (1, 3))), None, None),
    ((((), (), (0, 1), (0,)), ((0, 2), (1, 3))), "link", (1, 0)),
    ((((), (0,), (1,), (1, 2)), ((0, 1, 2), (3,))), "rank", (3, 1)),
    # link
    ((((), ()), ((0, 1),)), "link", (0, 0)),
    ((((), (0,), (0,)), ((0, 1, 2),)), "rank", (2, 0)),
    ((((), (0,), ()), ((0, 1, 2),)), "link", (0, 1)),
    ((((), (), (0,), (0,)), ((0, 2), (1, 3))), "link", (1, 0)),
    ((((), (), (1,), (0,)), ((0, 2), (1, 3))), "link", (0, 0)),
)

# Several entries apply: the one that is stated first counts, over all elements.
SEVERAL = (
    ((("x",), ()), "lower", 0),
    ((((), "x"), ("y",)), "lower", 1),
    ((((), (9,), (8,)), ((),)), "lower", 1),
    ((((), (0,)), ((0,), None)), "chain", 1),
    ((((), (0,), (5,)), ((0,), None)), "lower", 2),
    ((((), (), ()), ((0, 0), (1,))), "level", 0),
    ((((), (0,), (), ()), ((0, 1), (2,))), "level", 3),
    ((((0,), (0,), ()), ((0, 1), (2,))), "size", 1),
    ((((0,), ()), ((0, 1),)), "rank", (0, 0)),
    ((((), (1, 0), (2, 1)), ((0, 1, 2),)), "lower", 1),
    ((((), (0, 1), (1, 2)), ((0, 1, 2),)), "rank", (1, 1)),
    ((((), (0,), (0, 1, 2)), ((0, 1, 2),)), "rank", (2, 0)),
    ((((2,), (2,), ()), ((0, 1, 2),)), "rank", (0, 2)),
)


class ChartChecker(Case):
    def test_example(self):
        thing = (((), (0,)), ((0,), (1,)))
        self.fails(InvalidPaper, {"word": "rank", "at": (1, 0)}, lets_chart, thing)
        self.fails(InvalidPaper, {"word": "rank", "at": (1, 0)}, lets_chart, thing=thing)

    def test_heights(self):
        charts = ((SWITCH, 1), (DIAL, 2), (PICK, 2), (PAIRS, 2), (LOOSE, 2), (DIAL_MIXED, 2), (ONE_LEVEL, 0))
        for chart, height in charts + ((flat(64), 0), (ladder(64), 63), (pick(62), 2), (ring(31), 3)):
            self.same(lets_chart(chart), height)
            self.same(is_chart(chart), True)

    def test_random_charts(self):
        rng = random.Random(1)
        for _ in range(200):
            longest = rng.randint(1, 6)
            self.same(lets_chart(random_chart(rng, longest, 4)), longest - 1)

    def test_more_levels_than_a_chart_may_have(self):
        many = 200
        rows = tuple((level,) for level in range(many))
        self.same(lets_chart((((),) * many, rows)), 0)

    def test_each_entry(self):
        for thing, word, at in FAULTS + SEVERAL:
            before = copy.deepcopy(thing)
            for _ in range(2):
                if word is None:
                    self.same(lets_chart(thing), 1)
                else:
                    self.fails(InvalidPaper, {"word": word, "at": at}, lets_chart, thing)
                self.same(is_chart(thing), word is None)
            self.same(thing, before)

    def test_odd_values(self):
        for thing in ODD:
            self.fails(InvalidPaper, {"word": "shape", "at": -1}, lets_chart, thing)
            self.same(is_chart(thing), False)
            self.fails(InvalidPaper, {"word": "lower", "at": 1}, lets_chart, (((), thing or (1, 0)), ((0, 1),)))
            self.fails(InvalidPaper, {"word": "chain", "at": 1}, lets_chart, (((), (0,)), ((0, 1), thing)))

    def test_the_family(self):
        error = self.raised(lets_chart, None)
        self.assertIsInstance(error, PaperError)
        for family in (UseError, TextError, errors.LiveError):
            self.assertNotIsInstance(error, family)

    def test_against_the_definition(self):
        rng = random.Random(5)
        for _ in range(3000):
            many = rng.randint(1, 4)
            lowers = tuple(tuple(sorted(rng.sample(range(many), rng.choice((0, 0, 1, 1, 2)) % (many + 1))))
                           for _ in range(many))
            names = rng.sample(range(many), many)
            cut = rng.randint(0, many)
            rows = tuple(sorted(tuple(row) for row in (names[:cut], names[cut:]) if row))
            self.same(is_chart((lowers, rows)), fits_the_definition(lowers, rows), lowers, rows)


def fits_the_definition(lowers, rows):
    longest = max(len(row) for row in rows)
    rank = {}
    for row in rows:
        if (longest - len(row)) % 2:
            return False
        for place, level in enumerate(row):
            rank[level] = (longest - len(row)) // 2 + place
    if any(rank[lower] + 1 != rank[level] for level, lower_set in enumerate(lowers) for lower in lower_set):
        return False
    return all(one in lowers[other] for row in rows for one, other in zip(row, row[1:]))
