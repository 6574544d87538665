"""Point 55: numbers of tests that are fixed ahead."""

import itertools

from stubbornest.errors import NotUsable
from stubbornest.fixed import decides, fixed_number, fixed_price, undecided
from stubbornest.layers import how_many
from tests.cases import Case
from tests.samples import HUGE, LONG, NONE, NO_NUMBERS, ODD, SMALL, SWITCH, SWITCH_DOWN, TWO, WARN
from tests.test_prices import NO_RULES
from tests.worlds import WORDS, WORLDS, World

NO_COUNTS = (
    None, (), (1,), (1, 1, 1), (1, 1, 1, 1, 1), [1, 1, 1, 1], (1, 1, 1, True), (1, 1, 1, -1), (1, 1, 1, None), "1111",
    (1, 1, 1, "1"), (1, 1, 1, (1,)),
) + ODD


class Fixed(Case):
    def test_numbers(self):
        for e in (0, 1, 2, 9, HUGE):
            told = [fixed_number((word, e)) for word in WORDS]
            self.same(told, [2 * e + 1, 2 * e + 1, e + 1, e + 1])
        self.same(fixed_number(rule=("yes", 2)), 3)

    def test_prices(self):
        for bench in SMALL:
            for rule in World(bench).rules((0, 1, 5, HUGE)):
                self.same(fixed_price(bench, rule), fixed_number(rule) * how_many(bench))
        for bench in LONG:
            self.same(fixed_price(rule=("each", HUGE), bench=bench), (2 * HUGE + 1) * how_many(bench))
        self.same(fixed_price(((SWITCH,) * 60, 0, 60, 1), ("yes", HUGE)), 2 ** 60 * (HUGE + 1))

    def test_refused_rules(self):
        for rule in NO_RULES:
            self.fails(NotUsable, {"word": "rule", "at": -1}, fixed_number, rule)
            self.fails(NotUsable, {"word": "rule", "at": -1}, fixed_number, rule=rule)
            self.fails(NotUsable, {"word": "rule", "at": -1}, fixed_price, TWO, rule)
            for call in (decides, undecided):
                self.fails(NotUsable, {"word": "rule", "at": -1}, call, TWO, rule, (1, 1, 1, 1))
                self.fails(NotUsable, {"word": "rule", "at": -1}, call, TWO, rule, None)
        self.fails(NotUsable, {"word": "rule", "at": -1}, fixed_price, rule=("yes", 0), bench=WARN)
        for call in (decides, undecided):
            self.fails(NotUsable, {"word": "rule", "at": -1}, call, WARN, ("yes", 0), (1, 1, 1, 1))


class Decides(Case):
    def test_against_all_logs(self):
        benches = (NONE, ((), 0, 0, 2), ((SWITCH,), 0, 1, 1), ((SWITCH_DOWN,), 0, 1, 1), ((SWITCH, SWITCH), 1, 1, 1))
        for world in map(World, benches):
            most = 5 if len(world.points) == 1 else 3
            for counts in itertools.product(range(most + 1), repeat=len(world.points)):
                asked = [point for point, many in zip(world.points, counts) for _ in range(many)]
                logs = [tuple(zip(asked, g)) for g in itertools.product(range(world.top + 1), repeat=len(asked))]
                for rule in world.rules((0, 1, 2)):
                    good = all(len(world.fitting(rule, log)) <= 1 for log in logs)
                    self.same(decides(world.bench, rule, counts), good, rule, counts)

    def test_by_the_number(self):
        for world in WORLDS:
            for rule in world.rules((0, 1, 2)):
                number = fixed_number(rule)
                many = len(world.points)
                self.same(decides(world.bench, rule, (number,) * many), True)
                self.same(undecided(world.bench, rule, (number + 3,) * many), None)
                for at in range(many):
                    counts = (number,) * at + (number - 1,) + (number,) * (many - at - 1)
                    self.same(decides(counts=counts, rule=rule, bench=world.bench), False)

    def test_what_is_undecided(self):
        for world in WORLDS:
            for rule in world.rules((0, 1, 2, 4)):
                number = fixed_number(rule)
                many = len(world.points)
                rows = [(number,) * at + (short,) + (number + 1,) * (many - at - 1)
                        for at in range(many) for short in {0, number // 2, number - 1}]
                for counts in rows + [(0,) * many, (number - 1,) * many]:
                    told = undecided(world.bench, rule, counts)
                    self.same((told.__class__, len(told)), (tuple, 3))
                    log, one, other = told
                    self.same(tuple(len([x for x, _ in log if x == point]) for point in world.points), counts)
                    self.same(log.__class__, tuple)
                    self.assertTrue(all(answer.__class__ is tuple and answer[0] in world.at for answer in log))
                    self.assertNotEqual(one, other)
                    self.assertIn(one, world.tables)
                    self.assertIn(other, world.tables)
                    self.same(world.fits(rule, log, one) and world.fits(rule, log, other), True)
        self.same(undecided(counts=(1, 1, 1, 1), rule=("low", 0), bench=TWO), None)

    def test_refused_counts(self):
        for counts in NO_COUNTS:
            for call in (decides, undecided):
                self.fails(NotUsable, {"word": "counts", "at": -1}, call, TWO, ("each", 1), counts)
                self.fails(NotUsable, {"word": "counts", "at": -1}, call, counts=counts, rule=("each", 1), bench=TWO)
        for count in NO_NUMBERS:
            self.fails(NotUsable, {"word": "counts", "at": -1}, decides, NONE, ("yes", 1), (count,))
        self.same(decides(NONE, ("yes", 1), (10 ** 60 - 1,)), True)
