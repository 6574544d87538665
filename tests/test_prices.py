"""Points 53 and 54: the bounds of the least number, and the prices of claims."""

from math import comb

from stubbornest.changes import cut_to, face_of
from stubbornest.claims import claim_price
from stubbornest.counts import long_weight
from stubbornest.errors import Apart, NotUsable
from stubbornest.fixed import fixed_price
from stubbornest.layers import spread_of, weight_of
from stubbornest.prices import least_number, price_span, upper_first
from stubbornest.stubborn import stubborn_table
from stubbornest.tables import tables_of
from stubbornest.worsts import worst_told
from tests.cases import Case
from tests.games import Game
from tests.samples import HUGE, LONG, MIX, NONE, ODD, SMALL, SWITCH, TWO, WARN
from tests.test_tables import NO_TABLES
from tests.worlds import TINY, WORLDS, World

NO_RULES = (
    ("each", True), ("each", -1), ("each", None), ("each",), ("each", 1, 1), ["each", 1], ("Each", 1), ("", 1), (1, "each"),
    ("each", "1"), ("each", (1,)), (None, 1), "each", ("none", 0), (("each",), 1), ("all ", 1), ("yes", False),
) + ODD
ERRORS = (0, 1, 2, 9, HUGE)


class Spans(Case):
    def test_examples(self):
        self.same((price_span(TWO, ("yes", 1)), price_span(MIX, ("yes", 1))), ((5, 5), (6, 7)))
        self.fails(Apart, {"least": 4, "most": 5}, least_number, ((SWITCH, SWITCH), 0, 1, 1), ("yes", 1))
        # The document's own words about TWO: one wrong answer in all makes seven tests of three.
        self.same(least_number(TWO, ("all", 1)), 7)

    def test_by_the_definitions(self):
        for world in WORLDS + [World(bench) for bench in SMALL]:
            for rule in world.rules(ERRORS):
                span = world.span(rule)
                self.same(price_span(world.bench, rule), span)
                self.same(price_span(rule=rule, bench=world.bench), span)
                self.same(upper_first(world.bench, rule), world.upper_first(rule))
                if span[0] == span[1]:
                    self.same(least_number(rule=rule, bench=world.bench), span[0])
                else:
                    self.fails(Apart, {"least": span[0], "most": span[1]}, least_number, world.bench, rule)

    def test_the_least_number_lies_between(self):
        for world in TINY:
            for rule in world.rules((0, 1, 2)):
                if len(world.tables) <= (12, 7, 3)[rule[1]]:
                    least, most = price_span(world.bench, rule)
                    number = Game(world, rule).least_number()
                    self.assertLessEqual(least, number)
                    self.assertLessEqual(number, worst_told(world.bench, rule))
                    self.assertLessEqual(worst_told(world.bench, rule), most)

    def test_upper_first(self):
        # Uppermost points come first only if that promises no more tests.
        self.same(upper_first(bench=TWO, rule=("yes", 1)), True)
        self.same(upper_first(TWO, ("all", 1)), False)
        self.same([upper_first(MIX, ("yes", e)) for e in range(3)], [False, True, True])
        self.same([upper_first(TWO, ("yes", e)) for e in range(3)], [True, True, True])
        self.same([upper_first(TWO, (word, 5)) for word in ("all", "each", "low")], [False, False, False])

    def test_without_wrong_answers(self):
        for bench in SMALL:
            for word in ("all", "each", "low"):
                self.same(price_span(bench, (word, 0)), (weight_of(bench), long_weight(bench)))
            if bench[3] == 1:
                self.same(price_span(bench, ("yes", 0)), (weight_of(bench), long_weight(bench)))

    def test_more_wrong_answers_never_cost_less(self):
        for bench in SMALL:
            for word in ("all", "each", "low", "yes")[:4 if bench[3] == 1 else 3]:
                for e in range(4):
                    one, other = price_span(bench, (word, e)), price_span(bench, (word, e + 1))
                    self.same(one[0] <= other[0] and one[1] <= other[1], True)

    def test_faces_and_narrower_ranges_never_cost_more(self):
        for world in WORLDS:
            for rule in world.rules((0, 1, 3)):
                least, most = price_span(world.bench, rule)
                low, high = world.bench[1:3]
                parts = [cut_to(world.bench, *cut) for cut in ((low, low), (high, high), (low, (low + high) // 2))]
                parts += [
                    face_of(world.bench, slot, level)
                    for slot in range(len(world.bench[0])) for level in {point[slot] for point in world.points}
                ]
                for part in parts:
                    told = price_span(part, rule)
                    self.same(told[0] <= least and told[1] <= most, True)

    def test_sixty_switches(self):
        bench = ((SWITCH,) * 60, 0, 60, 1)
        one, two = comb(60, 30), comb(60, 30) + comb(60, 29)
        for e in ERRORS:
            self.same(least_number(bench, ("all", e)), (e + 1) * two + e)
            self.same(least_number(bench, ("each", e)), (2 * e + 1) * two)
            self.same(least_number(bench, ("low", e)), (e + 1) * two)
            self.same(price_span(bench, ("yes", e)), ((e + 1) * one + comb(60, 29), e * one + two))
            self.same(upper_first(bench, ("yes", e)), True)
        cut = ((SWITCH,) * 60, 0, 29, 1)
        self.fails(Apart, {
            "least": max(3 * comb(60, 29), 3 * comb(60, 28) + comb(60, 29)), "most": 3 * comb(60, 29) + comb(60, 28),
        }, least_number, cut, ("yes", 2))

    def test_long(self):
        for bench in LONG:
            for e in (3, HUGE):
                for top in (bench[3], 1):
                    told = bench[:3] + (top,)
                    m, n = weight_of(told), long_weight(told)
                    self.same(price_span(told, ("all", e)), ((e + 1) * m + e, (e + 1) * n + e))
                    self.same(price_span(told, ("each", e)), ((2 * e + 1) * m, (2 * e + 1) * n))
                    self.same(price_span(told, ("low", e)), ((e + 1) * m, (e + 1) * n))
                least, most = price_span(told, ("yes", e))
                self.same(least <= most <= (e + 1) * n, True)
                self.assertLessEqual(e * spread_of(told, 1), least)

    def test_refusals(self):
        for call in (price_span, least_number, upper_first):
            for rule in NO_RULES:
                self.fails(NotUsable, {"word": "rule", "at": -1}, call, TWO, rule)
                self.fails(NotUsable, {"word": "rule", "at": -1}, call, rule=rule, bench=TWO)
            for bench in (WARN, ((), 0, 0, 9), LONG[0]):
                self.fails(NotUsable, {"word": "rule", "at": -1}, call, bench, ("yes", 1))


class Claims(Case):
    def test_examples(self):
        self.same((claim_price(TWO, ("yes", 1), (0, 1, 1, 1)), claim_price(TWO, ("yes", 1), (1, 1, 1, 1))), (4, 2))
        self.same(claim_price(TWO, ("all", 1), (0, 1, 1, 1)), 7)

    def test_by_the_rims(self):
        for world in WORLDS:
            for table in world.tables:
                for rule in world.rules((0, 1, 4)):
                    self.same(claim_price(world.bench, rule, table), world.price(rule, table))

    def test_against_all_judges(self):
        for world in TINY:
            for rule in world.rules((0, 1, 2)):
                if len(world.tables) <= (12, 6, 3)[rule[1]]:
                    game = Game(world, rule)
                    for table in world.tables:
                        self.same(claim_price(table=table, rule=rule, bench=world.bench), game.claim(table))

    def test_the_greatest_is_the_least_of_the_span(self):
        for world in WORLDS:
            for rule in world.rules((0, 1, 3)):
                prices = [claim_price(world.bench, rule, table) for table in world.tables]
                low, high = world.bench[1:3]
                most = rule[1] * spread_of(world.bench, 1) + spread_of(world.bench, 2)
                if rule[0] != "yes":
                    self.same(max(prices), price_span(world.bench, rule)[0])
                    self.same(max(prices), claim_price(world.bench, rule, stubborn_table(world.bench)))
                else:
                    self.assertLessEqual(max(prices), most)
                    if low == high or 2 * high > sum(max(len(row) for row in chart[1]) - 1 for chart in world.bench[0]):
                        self.same(max(prices), most)

    def test_they_do_not_fall(self):
        for world in WORLDS[:20]:
            for table in world.tables[::3]:
                for rule in world.rules((0, 1, 2, 3)):
                    more = (rule[0], rule[1] + 1)
                    self.assertLessEqual(
                        claim_price(world.bench, rule, table), claim_price(world.bench, more, table)
                    )
                    self.assertLessEqual(fixed_price(world.bench, rule), fixed_price(world.bench, more))

    def test_no_slots(self):
        self.same([claim_price(NONE, ("yes", e), (0,)) for e in range(3)], [1, 2, 3])
        self.same([claim_price(NONE, ("yes", e), (1,)) for e in range(3)], [1, 2, 3])
        self.same([claim_price(((), 0, 0, 3), ("each", e), (1,)) for e in range(3)], [1, 3, 5])

    def test_refusals(self):
        for rule in NO_RULES:
            self.fails(NotUsable, {"word": "rule", "at": -1}, claim_price, TWO, rule, (0, 0, 0, 1))
            self.fails(NotUsable, {"word": "rule", "at": -1}, claim_price, TWO, rule, None)
        self.fails(NotUsable, {"word": "rule", "at": -1}, claim_price, WARN, ("yes", 1), (0, 0, 0, 1))
        for table in NO_TABLES + ODD:
            self.fails(NotUsable, {"word": "table", "at": -1}, claim_price, TWO, ("low", 1), table)
            self.fails(NotUsable, {"word": "table", "at": -1}, claim_price, table=table, rule=("yes", 1), bench=TWO)


class Whole(Case):
    def test_all_tables_are_gone_through(self):
        # The worlds hold all tables that the package knows.
        for world in WORLDS:
            self.same(list(tables_of(world.bench)), world.tables)
