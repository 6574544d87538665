"""Points 73 and 74: step tables, hard tables, and the answerer of a table."""

import random

from stubbornest.answering import answers_to, two_left
from stubbornest.claims import claim_price
from stubbornest.errors import NotUsable
from stubbornest.hards import hard_table, step_table
from stubbornest.prices import price_span
from stubbornest.stubborn import stubborn_table
from tests.cases import Case
from tests.samples import DIAL, NONE, NO_NUMBERS, ODD, SWITCH, SWITCH_DOWN, TWO, WARN
from tests.test_prices import NO_RULES
from tests.test_sequences import NO_POINTS
from tests.test_tables import NO_TABLES
from tests.worlds import WORLDS

F = (0, 1, 1, 1)
ASKED = ((0, 0), (0, 0), (0, 1), (0, 1), (1, 0), (1, 0))
CALLS = answers_to, two_left


class Hards(Case):
    def test_examples(self):
        self.same((step_table(WARN, 0), hard_table(TWO, ("yes", 1))), ((0, 2, 2, 2), (0, 0, 0, 1)))

    def test_step_tables(self):
        for world in WORLDS:
            low, high = world.bench[1:3]
            for rank in range(low - 1, high + 1):
                wanted = tuple(world.top if world.ranks[point] > rank else 0 for point in world.points)
                self.same(step_table(world.bench, rank), wanted)
                self.same(step_table(rank=rank, bench=world.bench), wanted)
                self.same(wanted in world.tables, True)
            for rank in (low - 2, high + 1, -2):
                self.fails(NotUsable, {"word": "rank", "at": -1}, step_table, world.bench, rank)
        self.same((step_table(NONE, -1), step_table(NONE, 0)), ((1,), (0,)))
        self.same(step_table(((SWITCH_DOWN,), 0, 1, 3), 0), (3, 0))

    def test_ranks_that_are_none(self):
        for rank in [thing for thing in NO_NUMBERS if thing != -1] + [10 ** 59, -2, 3, (0,)]:
            self.fails(NotUsable, {"word": "rank", "at": -1}, step_table, WARN, rank)
            self.fails(NotUsable, {"word": "rank", "at": -1}, step_table, rank=rank, bench=WARN)

    def test_hard_tables(self):
        for world in WORLDS:
            for rule in world.rules((0, 1, 2, 9)):
                hard = hard_table(world.bench, rule)
                self.same(hard, hard_table(rule=rule, bench=world.bench))
                self.same(claim_price(world.bench, rule, hard), price_span(world.bench, rule)[0])
                if rule[0] != "yes":
                    self.same(hard, stubborn_table(world.bench))
                else:
                    low, high = world.bench[1:3]
                    steps = [step_table(world.bench, rank) for rank in range(low - 1, high + 1)]
                    prices = [world.price(rule, table) for table in steps]
                    self.same(hard, steps[prices.index(max(prices))])

    def test_refusals(self):
        for rule in NO_RULES:
            self.fails(NotUsable, {"word": "rule", "at": -1}, hard_table, TWO, rule)
            self.fails(NotUsable, {"word": "rule", "at": -1}, hard_table, rule=rule, bench=TWO)
        self.fails(NotUsable, {"word": "rule", "at": -1}, hard_table, WARN, ("yes", 1))


def told_by_words(world, rule, table, log, at):
    """The grade that the answerer tells, by the words of the page."""
    word, e = rule
    facts = world.facts(table)
    if at not in facts:
        return table[at]
    rises, other = facts[at]
    grades = [grade for point, grade in log if point == world.points[at]]
    only = world.short(rule, table, log) == [at]
    tells = {
        "all": only and grades.count(table[at]) == e,
        "each": grades.count(table[at]) == e,
        "low": not rises,
        "yes": not [one for one in facts.values() if one[0]] and only,
    }[word]
    return other if tells and grades.count(other) < e else table[at]


def pair_by_words(world, rule, table, log):
    short = world.short(rule, table, log)
    if not short:
        return None
    at = short[0]
    return tuple(sorted([table, table[:at] + (world.facts(table)[at][1],) + table[at + 1:]]))


class Answering(Case):
    def test_examples(self):
        self.same(answers_to(TWO, ("all", 1), F, ASKED)[3:], (((0, 1), 1), ((1, 0), 1), ((1, 0), 0)))
        self.same(two_left(TWO, ("all", 1), F, ASKED), ((0, 1, 0, 1), F))
        told = answers_to(TWO, ("low", 1), F, ((0, 1), (0, 0), (0, 1)))
        self.same(told, (((0, 1), 0), ((0, 0), 0), ((0, 1), 1)))

    def check(self, world, rule, table, points):
        log = ()
        for point in points:
            log += ((point, told_by_words(world, rule, table, log, world.at[point])),)
        bench = world.bench
        self.same(answers_to(bench, rule, table, points), log, rule, table)
        self.same(answers_to(points=points, table=table, rule=rule, bench=bench), log)
        pair = pair_by_words(world, rule, table, log)
        self.same(two_left(bench, rule, table, points), pair)
        self.same(two_left(points=points, table=table, rule=rule, bench=bench), pair)
        for one in (table, *(pair or ())):
            self.same((one in world.tables, world.fits(rule, log, one)), (True, True))
        if len(points) < claim_price(bench, rule, table):
            self.same(pair is not None, True)

    def test_answer_by_answer(self):
        rng = random.Random(91)
        for world in WORLDS:
            for rule in world.rules((0, 1, 2)):
                for table in rng.sample(world.tables, min(2, len(world.tables))):
                    for many in (0, 4, 30):
                        self.check(world, rule, table, tuple(rng.choices(world.points, k=many)))

    def test_points_of_the_rim_again_and_again(self):
        rng = random.Random(92)
        for world in WORLDS:
            for rule in world.rules((1, 2, 3)):
                table = rng.choice(world.tables)
                rim = world.set_of(world.rim(table))
                points = tuple(point for point in rng.sample(rim, len(rim)) for _ in range(2 * rule[1] + 1))[:60]
                for many in {len(points), len(points) // 2, max(0, len(points) - 3)}:
                    self.check(world, rule, table, points[:many])

    def test_asked_where_it_lacks(self):
        # Whoever always asks the first point that lacks is done behind as many tests as the claim costs.
        rng = random.Random(93)
        for world in WORLDS:
            for rule in world.rules((0, 1, 2)):
                for table in rng.sample(world.tables, min(2, len(world.tables))):
                    points = ()
                    while world.short(rule, table, answers_to(world.bench, rule, table, points)):
                        short = world.short(rule, table, answers_to(world.bench, rule, table, points))
                        self.same(two_left(world.bench, rule, table, points) is None, False)
                        points += (world.points[short[0]],)
                    self.same(two_left(world.bench, rule, table, points), None)
                    self.same(len(points), claim_price(world.bench, rule, table))

    def test_two_hundred_tests(self):
        log = answers_to(TWO, ("each", 9), F, ASKED * 33 + ((0, 0), (1, 1)))
        self.same(len(log), 200)
        # Nine answers with the table's grade, then nine with the other one, then the table's for ever.
        self.same([grade for point, grade in log if point == (0, 0)], [0] * 9 + [1] * 9 + [0] * 49)
        self.same(two_left(TWO, ("each", 9), F, ASKED * 33), None)

    def test_no_slots_one_rank_other_levels(self):
        self.same(answers_to(NONE, ("yes", 2), (0,), ((),) * 4), (((), 0),) * 4)
        self.same(answers_to(NONE, ("yes", 2), (1,), ((),) * 4), (((), 0), ((), 0), ((), 1), ((), 1)))
        self.same(answers_to(((), 0, 0, 3), ("all", 1), (3,), ((),) * 3), (((), 3), ((), 2), ((), 3)))
        self.same(two_left(((), 0, 0, 3), ("all", 1), (2,), ((),) * 2), ((2,), (3,)))
        down = ((SWITCH_DOWN,), 0, 1, 2)
        self.same(answers_to(down, ("low", 1), (2, 1), ((0,), (0,), (1,))), (((0,), 1), ((0,), 2), ((1,), 1)))
        self.same(two_left(down, ("low", 1), (2, 1), ((1,), (1,))), ((1, 1), (2, 1)))
        cut = ((DIAL, SWITCH), 1, 1, 1)
        self.same(two_left(cut, ("yes", 0), (0, 1), ((0, 1),)), ((0, 0), (0, 1)))

    def test_refusals(self):
        for call in CALLS:
            for rule in NO_RULES:
                self.fails(NotUsable, {"word": "rule", "at": -1}, call, TWO, rule, None, None)
                self.fails(NotUsable, {"word": "rule", "at": -1}, call, points=(), table=F, rule=rule, bench=TWO)
            self.fails(NotUsable, {"word": "rule", "at": -1}, call, WARN, ("yes", 1), F, ())
            for table in NO_TABLES + ODD:
                self.fails(NotUsable, {"word": "table", "at": -1}, call, TWO, ("yes", 1), table, None)
                self.fails(NotUsable, {"word": "table", "at": -1}, call, points=(), table=table, rule=("low", 1), bench=TWO)
            for points in NO_POINTS:
                self.fails(NotUsable, {"word": "points", "at": -1}, call, TWO, ("all", 1), F, points)
                self.fails(NotUsable, {"word": "points", "at": -1}, call, points=points, table=F, rule=("all", 1), bench=TWO)
