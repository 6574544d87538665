"""Points 63 to 66: logs, what fits them, what is left point by point, several testers."""

import random

from stubbornest.errors import NotUsable
from stubbornest.logkinds import is_log
from stubbornest.logs import counts_at, fits, wrong_in
from stubbornest.pointwise import grades_left, greatest_fit, least_fit
from stubbornest.settling import left_grades
from stubbornest.testers import joined_fits
from tests.cases import Case
from tests.samples import DIAL, MIX, NONE, ODD, SWITCH, SWITCH_DOWN, TWO, WARN
from tests.test_prices import NO_RULES
from tests.test_tables import NO_TABLES
from tests.worlds import WORDS, WORLDS, left_by_words

ONE, OTHER = ((0, 1), 1), ((1, 0), 0)
NO_LOGS = (
    [], [ONE], (ONE, None), (ONE, list(OTHER)), (ONE, ((0, 1), True)), (ONE, ((0, False), 1)), (ONE, ((0, 2), 1)), ONE,
    (ONE, ((0, 1), 3)), (ONE, ((0, 1), -1)), (ONE, ((0, 1), "1")), (ONE, ((0, 1),)), (ONE, ((0, 1), 1, 1)), ((ONE,),),
    (ONE, ((0, 0, 0), 1)), (ONE, ([0, 1], 1)), (ONE, ((), 1)), "log", (ONE, (1, (0, 1))), ("",), ((0, 1), 1),
) + tuple(thing for thing in ODD if thing != ())

# Two grades alone: every word may stand.
POINT_LOG = (((0, 1), 1), ((0, 1), 0), ((1, 1), 1), ((0, 1), 1))


class Kinds(Case):
    def test_what_is_a_log(self):
        for thing in ((), (ONE,), (OTHER, ONE), (ONE, ONE, OTHER, ONE), (((0, 1), 2), ((0, 1), 0)), (((1, 1), 0), ((0, 0), 2))):
            self.same(is_log(WARN, thing), True)
            self.same(is_log(thing=thing, bench=WARN), True)
        for thing in NO_LOGS:
            self.same(is_log(WARN, thing), False, thing)
            self.same(is_log(thing=thing, bench=WARN), False, thing)
        self.same(is_log(TWO, (((0, 1), 2),)), False)

    def test_one_rank_and_no_slots(self):
        cut = ((DIAL, SWITCH), 1, 1, 1)
        self.same([is_log(cut, ((point, 0),)) for point in ((0, 0), (0, 1), (1, 0), (1, 1))], [False, True, True, False])
        self.same([is_log(NONE, ((point, 1),)) for point in ((), (0,), None)], [True, False, False])

    def test_two_hundred_answers(self):
        log = (ONE, OTHER) * 100
        self.same(is_log(TWO, log), True)
        self.same(is_log(TWO, log[:199] + (((0, 1), True),)), False)


class Fits(Case):
    def test_examples(self):
        self.same(fits(TWO, ("low", 1), (((0, 1), 0), ((1, 1), 1)), (0, 1, 1, 1)), True)
        self.same(counts_at(WARN, (((0, 1), 2), ((0, 1), 2), ((0, 1), 0)), (0, 1)), (1, 0, 2))

    def test_by_the_definitions(self):
        rng = random.Random(64)
        for world in WORLDS:
            for log in world.some_logs(rng, 6, 9):
                for table in rng.sample(world.tables, min(4, len(world.tables))):
                    self.same(wrong_in(world.bench, log, table), tuple(world.wrong(log, table)))
                    self.same(wrong_in(table=table, log=log, bench=world.bench), tuple(world.wrong(log, table)))
                    for rule in world.rules((0, 1, 5)):
                        self.same(fits(world.bench, rule, log, table), world.fits(rule, log, table), rule, log, table)
                        self.same(fits(table=table, log=log, rule=rule, bench=world.bench), world.fits(rule, log, table))
                for point in world.points:
                    counts = tuple(log.count((point, grade)) for grade in range(world.top + 1))
                    self.same(counts_at(world.bench, log, point), counts)
                    self.same(counts_at(point=point, log=log, bench=world.bench), counts)

    def test_each_word_at_its_edges(self):
        table = (0, 1, 1, 1)
        low, high = ((0, 1), 0), ((0, 0), 1)
        for log, wanted in (
            ((), (True, True, True, True)),
            ((low,), (True, True, True, True)),
            ((low, low), (False, False, False, False)),
            ((low, ((1, 0), 0)), (False, True, True, False)),
            ((high,), (True, True, False, False)),
            ((high, low), (False, True, False, False)),
            ((high, high), (False, False, False, False)),
        ):
            self.same(tuple(fits(TWO, (word, 1), log, table) for word in WORDS), wanted, log)
        self.same([fits(WARN, (word, 1), (((0, 1), 0), ((0, 1), 2)), (0, 1, 1, 1)) for word in WORDS[:3]], [False] * 3)
        self.same([fits(WARN, (word, 2), (((0, 1), 0), ((0, 1), 2)), (0, 1, 1, 1)) for word in WORDS[:3]], [True, True, False])

    def test_two_hundred_answers(self):
        log = (((0, 1), 1),) * 190 + (((0, 1), 0),) * 10
        self.same(counts_at(TWO, log, (0, 1)), (10, 190))
        self.same(wrong_in(TWO, log, (0, 1, 0, 1)), tuple(range(190, 200)))
        self.same([fits(TWO, ("each", e), log, (0, 1, 0, 1)) for e in (9, 10)], [False, True])

    def test_refusals(self):
        for log in NO_LOGS:
            self.fails(NotUsable, {"word": "log", "at": -1}, wrong_in, WARN, log, (0, 0, 0, 0))
            self.fails(NotUsable, {"word": "log", "at": -1}, wrong_in, WARN, log, None)
            self.fails(NotUsable, {"word": "log", "at": -1}, fits, WARN, ("all", 1), log, None)
            self.fails(NotUsable, {"word": "log", "at": -1}, fits, table=(0, 0, 0, 0), log=log, rule=("all", 1), bench=WARN)
            self.fails(NotUsable, {"word": "log", "at": -1}, counts_at, WARN, log, None)
            self.fails(NotUsable, {"word": "log", "at": -1}, counts_at, point=(0, 0), log=log, bench=WARN)
        for table in NO_TABLES + ODD:
            self.fails(NotUsable, {"word": "table", "at": -1}, wrong_in, TWO, (ONE,), table)
            self.fails(NotUsable, {"word": "table", "at": -1}, fits, TWO, ("yes", 1), (ONE,), table)
            self.fails(NotUsable, {"word": "table", "at": -1}, fits, table=table, log=(ONE,), rule=("each", 1), bench=TWO)
        for rule in NO_RULES:
            self.fails(NotUsable, {"word": "rule", "at": -1}, fits, TWO, rule, (), (0, 0, 0, 0))
            self.fails(NotUsable, {"word": "rule", "at": -1}, fits, TWO, rule, None, None)
        self.fails(NotUsable, {"word": "rule", "at": -1}, fits, WARN, ("yes", 1), (), (0, 0, 0, 0))
        for point in ODD + ((0, 2), (0, True), [0, 1], (0, 0, 0), "01"):
            self.fails(NotUsable, {"word": "point", "at": -1}, counts_at, WARN, (ONE,), point)
            self.fails(NotUsable, {"word": "point", "at": -1}, counts_at, point=point, log=(), bench=WARN)


class Pointwise(Case):
    def test_examples(self):
        self.same(grades_left(WARN, ("each", 1), (((0, 1), 0), ((0, 1), 2)), (0, 1)), (0, 2))
        told = (((0, 0), 1), ((0, 0), 1), ((0, 1), 0), ((0, 1), 2))
        found = least_fit(WARN, ("each", 1), told), greatest_fit(WARN, ("each", 1), told)
        self.same(found, ((1, 2, 1, 2), (1, 2, 2, 2)))
        self.fails(NotUsable, {"word": "rule", "at": -1}, greatest_fit, TWO, ("yes", 0), ())

    def test_grades_left(self):
        rng = random.Random(65)
        for world in WORLDS:
            for log in world.some_logs(rng, 5, 12):
                for rule in world.rules((0, 1, 3)):
                    for point in world.points:
                        grades = tuple(grade for other, grade in log if other == point)
                        left = left_by_words(rule, rule[1], 0, world.top, grades)
                        self.same(grades_left(world.bench, rule, log, point), left)
                        self.same(grades_left(point=point, log=log, rule=rule, bench=world.bench), left)
                        self.same(left_grades(rule, rule[1], 0, world.top, grades), left)

    def test_against_all_tables(self):
        rng = random.Random(66)
        for world in WORLDS:
            for log in world.some_logs(rng, 8, 8):
                for rule in world.rules((0, 1, 2)):
                    tables = world.fitting(rule, log)
                    least = tuple(map(min, zip(*tables))) if tables else None
                    greatest = tuple(map(max, zip(*tables))) if tables else None
                    if rule[0] != "all":
                        self.same(least_fit(world.bench, rule, log), least, rule, log)
                        self.same(least is None or least in tables, True)
                    if rule[0] in ("each", "low"):
                        self.same(greatest_fit(world.bench, rule, log), greatest, rule, log)
                        self.same(greatest is None or greatest in tables, True)
                        self.check_between(world, rule, log, tables)
                    elif rule[0] == "yes" and tables:
                        ones = [world.at[point] for point, grade in log if grade == 1]
                        over = [any(one == at or one in world.below[at] for one in ones) for at in range(len(world.points))]
                        self.same(least, tuple(map(int, over)))

    def check_between(self, world, rule, log, tables):
        """What is possible is left at the point, and between the least and the greatest table."""
        for at, point in enumerate(world.points):
            possible = sorted({table[at] for table in tables})
            if tables:
                least, greatest = min(possible), max(possible)
                left = [g for g in grades_left(world.bench, rule, log, point) if least <= g <= greatest]
                self.same(left, possible)

    def test_no_slots_one_rank_other_levels(self):
        self.same(least_fit(((), 0, 0, 3), ("low", 1), (((), 1), ((), 2))), (2,))
        self.same(greatest_fit(((), 0, 0, 3), ("low", 1), (((), 1), ((), 2))), (2,))
        self.same(greatest_fit(((), 0, 0, 3), ("low", 2), (((), 1), ((), 2))), (3,))
        self.same(least_fit(NONE, ("yes", 0), (((), 0), ((), 1))), None)
        self.same(least_fit(NONE, ("yes", 1), (((), 0), ((), 1))), (1,))
        down = ((SWITCH_DOWN,), 0, 1, 2)
        self.same(least_fit(down, ("each", 0), (((1,), 1),)), (1, 1))
        self.same(greatest_fit(down, ("each", 0), (((0,), 1),)), (1, 1))
        cut = ((DIAL, SWITCH), 1, 1, 2)
        self.same((least_fit(cut, ("low", 0), (((1, 0), 1),)), greatest_fit(cut, ("low", 0), (((1, 0), 1),))), ((0, 1), (2, 1)))

    def test_two_hundred_answers(self):
        log = tuple(((at % 2, at // 2 % 2), at % 2) for at in range(200))
        self.same(least_fit(TWO, ("yes", 9), log), (0, 0, 1, 1))
        self.same(greatest_fit(TWO, ("low", 9), log), (0, 0, 1, 1))
        self.same(greatest_fit(TWO, ("each", 0), log), (0, 0, 1, 1))

    def test_refusals(self):
        for rule in NO_RULES + (("all", 1), ("all", 0)):
            for call in (least_fit, greatest_fit):
                self.fails(NotUsable, {"word": "rule", "at": -1}, call, TWO, rule, ())
                self.fails(NotUsable, {"word": "rule", "at": -1}, call, log=None, rule=rule, bench=TWO)
        for rule in NO_RULES:
            self.fails(NotUsable, {"word": "rule", "at": -1}, grades_left, TWO, rule, (), (0, 0))
            self.fails(NotUsable, {"word": "rule", "at": -1}, grades_left, point=None, log=None, rule=rule, bench=TWO)
        for call, more in ((least_fit, ()), (grades_left, ((0, 0),))):
            self.fails(NotUsable, {"word": "rule", "at": -1}, call, WARN, ("yes", 1), (), *more)
        self.fails(NotUsable, {"word": "rule", "at": -1}, greatest_fit, TWO, ("yes", 1), None)
        for log in NO_LOGS:
            self.fails(NotUsable, {"word": "log", "at": -1}, least_fit, WARN, ("each", 1), log)
            self.fails(NotUsable, {"word": "log", "at": -1}, greatest_fit, log=log, rule=("low", 1), bench=WARN)
            self.fails(NotUsable, {"word": "log", "at": -1}, grades_left, WARN, ("all", 1), log, None)
        for point in ODD + ((0, 2), (0, True), [0, 1]):
            self.fails(NotUsable, {"word": "point", "at": -1}, grades_left, WARN, ("all", 1), (), point)
            self.fails(NotUsable, {"word": "point", "at": -1}, grades_left, point=point, log=(), rule=("low", 1), bench=WARN)


class Testers(Case):
    def test_examples(self):
        found = joined_fits(TWO, ((("low", 0), (((0, 1), 1),)), (("each", 0), (((0, 0), 0),))))
        self.same(found, ((0, 1, 0, 1), (0, 1, 1, 1)))

    def test_against_all_tables(self):
        rng = random.Random(67)
        for world in WORLDS:
            for _ in range(5):
                testers, ahead = (), None
                for _ in range(4):
                    tables = [table for table in world.tables if all(world.fits(*tester, table) for tester in testers)]
                    wanted = None
                    if tables:
                        wanted = tuple(map(min, zip(*tables))), tuple(map(max, zip(*tables)))
                    found = joined_fits(world.bench, testers)
                    self.same(found, wanted, testers)
                    self.same(joined_fits(testers=testers, bench=world.bench), wanted)
                    if found and ahead:
                        self.same(all(a <= b for a, b in zip(ahead[0], found[0])), True)
                        self.same(all(a >= b for a, b in zip(ahead[1], found[1])), True)
                    self.same(found is None or not testers or ahead is not None, True)
                    ahead = found
                    rule = rng.choice(("each", "low")), rng.randint(0, 2)
                    testers += ((rule, world.some_log(rng, rng.randint(0, 4))),)

    def test_one_tester(self):
        rng = random.Random(68)
        for world in WORLDS:
            for log in world.some_logs(rng, 6, 6):
                for rule in world.rules((0, 1))[2:6]:
                    if rule[0] in ("each", "low"):
                        least, greatest = least_fit(world.bench, rule, log), greatest_fit(world.bench, rule, log)
                        self.same(joined_fits(world.bench, ((rule, log),)), None if least is None else (least, greatest))

    def test_twenty_testers(self):
        testers = tuple((("low", at), (((0, 1), 1),) * (at + 1)) for at in range(10)) * 2
        self.same(joined_fits(TWO, testers), ((0, 1, 0, 1), (1, 1, 1, 1)))
        self.same(joined_fits(TWO, testers[:19] + ((("each", 0), (((1, 1), 0),)),)), None)

    def test_no_testers(self):
        self.same(joined_fits(MIX, ()), ((0,) * 6, (1,) * 6))
        self.same(joined_fits(((), 0, 0, 4), ()), ((0,), (4,)))

    def test_refusals(self):
        good = (("low", 0), (ONE,))
        wrong = [
            None, [good], (good, list(good)), (good, None), good, (good, (("low", 0),)), (good, good + ((),)), "", 0, True,
            (good, (("all", 0), ())), (good, (("yes", 0), ())), (good, ((), ("low", 0))),
        ]
        wrong += [(good, (rule, (ONE,))) for rule in NO_RULES]
        wrong += [(good, (("each", 1), log)) for log in NO_LOGS]
        wrong += [(thing,) for thing in ODD]
        for testers in wrong:
            self.fails(NotUsable, {"word": "testers", "at": -1}, joined_fits, WARN, testers)
            self.fails(NotUsable, {"word": "testers", "at": -1}, joined_fits, testers=testers, bench=WARN)
        self.fails(NotUsable, {"word": "testers", "at": -1}, joined_fits, TWO, ((("yes", 0), ()),))
