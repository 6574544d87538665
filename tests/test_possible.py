"""Point 70: what is possible, sure and shown by a log, and tables that fit it."""

import random

from stubbornest.errors import NotUsable
from stubbornest.falling import fewest_wrong
from stubbornest.following import follow
from stubbornest.possible import beside_fit, possible_at, shown_table, sure_points, two_fits
from stubbornest.telling import told_grades
from tests.cases import Case
from tests.samples import DIAL, NONE, ODD, SWITCH, SWITCH_DOWN, TWO, WARN
from tests.test_logs import NO_LOGS
from tests.test_prices import NO_RULES
from tests.test_tables import NO_TABLES
from tests.worlds import WORLDS


class Possible(Case):
    def test_examples(self):
        self.same(possible_at(TWO, ("all", 1), (((1, 1), 0),), (0, 0)), (0, 1))
        self.same(sure_points(TWO, ("yes", 1), (((1, 0), 1),)), (((1, 0), 1), ((1, 1), 1)))
        self.same(shown_table(TWO, ("all", 0), (((0, 1), 0), ((1, 0), 0), ((1, 1), 1))), (0, 0, 0, 1))
        self.same(beside_fit(TWO, ("low", 0), (((0, 1), 0), ((1, 0), 0)), (0, 0, 0, 0)), (0, 0, 0, 1))

    def check(self, world, rule, log):
        bench = world.bench
        tables = world.fitting(rule, log)
        possible = world.possible(tables)
        for point, wanted in zip(world.points, possible):
            self.same(possible_at(bench, rule, log, point), wanted, rule, log, point)
        pairs = zip(world.points, possible)
        self.same(sure_points(bench, rule, log), tuple((point, row[0]) for point, row in pairs if len(row) == 1), rule, log)
        self.same(shown_table(bench, rule, log), tables[0] if len(tables) == 1 else None, rule, log)
        pair = two_fits(bench, rule, log)
        if len(tables) < 2:
            self.same(pair, None)
        else:
            one, other = pair
            self.same((pair.__class__, one in tables, other in tables, one != other), (tuple, True, True, True))
        return tables

    def check_beside(self, world, rule, log, tables, table):
        other = beside_fit(world.bench, rule, log, table)
        self.same(other, beside_fit(table=table, log=log, rule=rule, bench=world.bench))
        if len(tables) == 1:
            self.same(other, None)
        else:
            self.same((other in tables, other != table), (True, True), rule, log, table)
            never_less = all(one <= two for one, two in zip(table, other))
            self.same(never_less or all(one >= two for one, two in zip(table, other)), True)

    def test_against_all_tables(self):
        rng = random.Random(80)
        empty = 0
        for world in WORLDS:
            for log in world.some_logs(rng, 4, 10):
                for rule in world.rules((0, 1, 3)):
                    tables = self.check(world, rule, log)
                    empty += not tables
                    for table in rng.sample(tables, min(3, len(tables))):
                        self.check_beside(world, rule, log, tables, table)
                    for table in rng.sample(world.tables, min(2, len(world.tables))):
                        if table not in tables:
                            self.fails(NotUsable, {"word": "table", "at": -1}, beside_fit, world.bench, rule, log, table)
        # Logs that no table fits are among them.
        self.assertGreater(empty, 50)

    def test_logs_that_nearly_show_a_table(self):
        # The answers of follow up to its end, and all of these but one.
        rng = random.Random(81)
        for world in WORLDS[::2]:
            for rule in world.rules((0, 1)):
                table = rng.choice(world.tables)
                grades = told_grades(world.bench, rule, table, ())
                points = follow(world.bench, rule, grades)[0]
                log = tuple(zip(points, grades))
                self.same(self.check(world, rule, log), [table])
                self.check_beside(world, rule, log, [table], table)
                at = rng.randrange(len(log))
                less = log[:at] + log[at + 1:]
                self.check_beside(world, rule, less, self.check(world, rule, less), table)

    def test_all_beside_all(self):
        rng = random.Random(82)
        for world in WORLDS:
            if len(world.tables) <= 30:
                log = world.some_log(rng, 3)
                for rule in world.rules((0, 1, 2)):
                    tables = world.fitting(rule, log)
                    for table in tables:
                        self.check_beside(world, rule, log, tables, table)

    def test_some_table_fits(self):
        # Under "all" exactly if no more answers are wrong than may be.
        rng = random.Random(83)
        for world in WORLDS:
            for log in world.some_logs(rng, 6, 8):
                for e in range(4):
                    fewest = fewest_wrong(world.bench, log)
                    self.same(possible_at(world.bench, ("all", e), log, world.points[0]) != (), fewest <= e)

    def test_one_more_answer(self):
        rng = random.Random(84)
        for world in WORLDS[::3]:
            for rule in world.rules((1, 2)):
                log = world.some_log(rng, 6)
                rows = [
                    [possible_at(world.bench, rule, log[:many], point) for point in world.points] for many in range(7)
                ]
                for ahead, behind in zip(rows, rows[1:]):
                    self.same(all(set(less) <= set(more) for more, less in zip(ahead, behind)), True)

    def test_two_hundred_answers(self):
        bench = ((SWITCH,) * 6, 0, 6, 1)
        table = tuple(int(bin(number).count("1") > 2) for number in range(64))
        points = [tuple(number >> (5 - at) & 1 for at in range(6)) for number in range(64)]
        log = tuple(zip(points, table)) * 3
        self.same(len(log), 192)
        for word in ("all", "each", "low"):
            self.same(shown_table(bench, (word, 1), log), table)
            self.same(sure_points(bench, (word, 1), log), tuple(zip(points, table)))
            self.same(two_fits(bench, (word, 2), log), None)
            self.same(two_fits(bench, (word, 3), log) is None, False)
        self.same(shown_table(bench, ("yes", 2), log), table)
        # At the ranks 2 and 3 a point changes alone; at a further one at least five others change with it.
        away = tuple((point, grade) for point, grade in zip(points, table) if sum(point) not in (2, 3))
        self.same(sure_points(bench, ("all", 9), log), away)
        high = bench[:3] + (9,)
        self.same([two_fits(high, ("all", e), log) is None for e in (2, 3)], [True, False])
        log = tuple((point, 9 * grade) for point, grade in log)
        self.same(shown_table(high, ("each", 1), log), tuple(9 * grade for grade in table))

    def test_no_slots_one_rank_other_levels(self):
        log = (((), 0), ((), 1))
        self.same([possible_at(NONE, (word, 0), log, ()) for word in ("all", "each", "low", "yes")], [()] * 4)
        self.same([possible_at(NONE, (word, 1), log, ()) for word in ("all", "each", "low", "yes")], [(0, 1), (0, 1), (1,), (1,)])
        self.same(shown_table(NONE, ("low", 1), log), (1,))
        self.same(sure_points(NONE, ("low", 0), log), ())
        self.same(possible_at(((), 0, 0, 3), ("low", 0), (((), 2),), ()), (2,))
        self.same(possible_at(((), 0, 0, 3), ("low", 1), (((), 2),), ()), (2, 3))
        down = ((SWITCH_DOWN,), 0, 1, 2)
        self.same(sure_points(down, ("each", 0), (((1,), 2),)), (((0,), 2), ((1,), 2)))
        cut = ((DIAL, SWITCH), 1, 1, 1)
        self.same(sure_points(cut, ("all", 0), (((1, 0), 0),)), (((1, 0), 0),))
        self.same(two_fits(cut, ("all", 0), (((1, 0), 0), ((0, 1), 1))), None)

    def test_refusals(self):
        for rule in NO_RULES:
            for call in (sure_points, shown_table, two_fits):
                self.fails(NotUsable, {"word": "rule", "at": -1}, call, TWO, rule, ())
                self.fails(NotUsable, {"word": "rule", "at": -1}, call, log=None, rule=rule, bench=TWO)
            for call in (possible_at, beside_fit):
                self.fails(NotUsable, {"word": "rule", "at": -1}, call, TWO, rule, (), None)
                self.fails(NotUsable, {"word": "rule", "at": -1}, call, TWO, rule, None, None)
        for log in NO_LOGS:
            for rule in (("all", 1), ("each", 1), ("low", 1)):
                for call in (sure_points, shown_table, two_fits):
                    self.fails(NotUsable, {"word": "log", "at": -1}, call, WARN, rule, log)
                    self.fails(NotUsable, {"word": "log", "at": -1}, call, log=log, rule=rule, bench=WARN)
                self.fails(NotUsable, {"word": "log", "at": -1}, possible_at, WARN, rule, log, None)
                self.fails(NotUsable, {"word": "log", "at": -1}, beside_fit, WARN, rule, log, None)
        for call in (sure_points, shown_table, two_fits):
            self.fails(NotUsable, {"word": "rule", "at": -1}, call, WARN, ("yes", 1), ())
        for point in ODD + ((0, 2), (0, True), [0, 1]):
            for rule in (("all", 1), ("each", 1), ("low", 1)):
                self.fails(NotUsable, {"word": "point", "at": -1}, possible_at, WARN, rule, (), point)
                self.fails(NotUsable, {"word": "point", "at": -1}, possible_at, point=point, log=(), rule=rule, bench=WARN)
        for table in NO_TABLES + ODD:
            for rule in (("all", 1), ("yes", 1), ("low", 1)):
                self.fails(NotUsable, {"word": "table", "at": -1}, beside_fit, TWO, rule, (), table)
                self.fails(NotUsable, {"word": "table", "at": -1}, beside_fit, table=table, log=(), rule=rule, bench=TWO)
