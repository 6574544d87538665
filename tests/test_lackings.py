"""Point 71: what a log without wrong answers still lacks to judge a table."""

import random

from stubbornest.claims import claim_price
from stubbornest.errors import NotUsable
from stubbornest.lackings import lacking, lacking_points
from stubbornest.possible import shown_table
from tests.cases import Case
from tests.games import Game
from tests.samples import DIAL, NONE, ODD, SWITCH, SWITCH_DOWN, TWO, WARN
from tests.test_logs import NO_LOGS
from tests.test_prices import NO_RULES
from tests.test_tables import NO_TABLES
from tests.worlds import TINY, WORLDS

F = (0, 1, 1, 1)
CALLS = lacking, lacking_points


def right_log(rng, world, table, many):
    """A log of so many answers, all of the table."""
    return tuple((world.points[at], table[at]) for at in rng.choices(range(len(world.points)), k=many))


def lacking_by_words(world, rule, log, table):
    """What the page says, point by point."""
    word, e = rule
    rising = world.raisable(table)
    short = [(at, len([1 for point, _ in log if point == world.points[at]])) for at in sorted(world.rim(table))]
    if word in ("all", "each"):
        short = [(at, a) for at, a in short if a <= e]
    else:
        short = [(at, a) for at, a in short if a <= e and (at in rising or a == 0)]
    points = tuple(world.points[at] for at, _ in short)
    if word == "each":
        return points, sum(2 * e + 1 - a for _, a in short)
    if word == "all":
        return points, sum(e + 1 - a for _, a in short) + (e if short else 0)
    if word == "low":
        return points, sum(e + 1 - a for _, a in short)
    s = sum(e + 1 - a for at, a in short if at in rising)
    d = len([at for at, _ in short if at not in rising])
    return points, d + max(s, e) if d else s


class Lacking(Case):
    def test_examples(self):
        one = (((0, 0), 0),)
        self.same((lacking(TWO, ("all", 1), one, F), lacking(TWO, ("yes", 1), one, F)), (6, 3))
        self.fails(NotUsable, {"word": "log", "at": 1}, lacking, TWO, ("each", 2), (((0, 0), 0), ((1, 1), 0)), F)

    def test_by_the_words_of_the_page(self):
        rng = random.Random(85)
        for world in WORLDS:
            for table in rng.sample(world.tables, min(3, len(world.tables))):
                for many in (0, 1, 7, 30):
                    log = right_log(rng, world, table, many)
                    for rule in world.rules((0, 1, 5)):
                        points, number = lacking_by_words(world, rule, log, table)
                        self.same(lacking_points(world.bench, rule, log, table), points)
                        self.same(lacking_points(table=table, log=log, rule=rule, bench=world.bench), points)
                        self.same(lacking(world.bench, rule, log, table), number)
                        self.same(lacking(table=table, log=log, rule=rule, bench=world.bench), number)
                        if not many:
                            self.same(number, claim_price(world.bench, rule, table))

    def test_against_all_judges(self):
        rng = random.Random(86)
        for world in TINY:
            for rule in world.rules((0, 1, 2)):
                if len(world.tables) <= (12, 6, 3)[rule[1]]:
                    game = Game(world, rule)
                    for table in world.tables:
                        for many in (0, 1, 2, 3, 5, 8):
                            log = right_log(rng, world, table, many)
                            self.same(lacking(world.bench, rule, log, table), game.claim(table, log), rule, log, table)

    def test_nothing_lacks_where_the_table_is_shown(self):
        rng = random.Random(87)
        none = 0
        for world in WORLDS:
            if len(world.tables) <= 200:
                for table in rng.sample(world.tables, min(5, len(world.tables))):
                    for rule in world.rules((0, 1, 2)):
                        many = rng.choice((2, 5, 10, 20)) * (rule[1] + 1)
                        log = right_log(rng, world, table, many)
                        shown = world.fitting(rule, log) == [table]
                        none += shown
                        self.same(lacking(world.bench, rule, log, table) == 0, shown)
                        self.same(lacking_points(world.bench, rule, log, table) == (), shown)
                        self.same(shown_table(world.bench, rule, log), table if shown else None)
        self.assertGreater(none, 200)

    def test_one_more_right_answer(self):
        rng = random.Random(88)
        for world in WORLDS[::2]:
            for rule in world.rules((0, 2)):
                table = rng.choice(world.tables)
                log = right_log(rng, world, table, 15)
                numbers = [lacking(world.bench, rule, log[:many], table) for many in range(16)]
                self.same(numbers, sorted(numbers, reverse=True))

    def test_first_wrong_answer(self):
        rng = random.Random(89)
        for world in WORLDS:
            for _ in range(5):
                table, log = rng.choice(world.tables), world.some_log(rng, 8, 0.8)
                wrong = world.wrong(log, table)
                if wrong:
                    for rule in world.rules((0, 9)):
                        for call in CALLS:
                            self.fails(NotUsable, {"word": "log", "at": wrong[0]}, call, world.bench, rule, log, table)

    def test_no_slots_one_rank_other_levels(self):
        self.same([lacking(NONE, ("yes", e), (), (0,)) for e in range(3)], [1, 2, 3])
        self.same([lacking(NONE, ("yes", e), (), (1,)) for e in range(3)], [1, 2, 3])
        self.same([lacking(NONE, ("yes", e), (((), 1),), (1,)) for e in range(3)], [0, 0, 0])
        self.same([lacking(NONE, ("yes", e), (((), 0),), (0,)) for e in range(3)], [0, 1, 2])
        self.same(lacking_points(NONE, ("low", 1), (((), 0),), (0,)), ((),))
        self.same([lacking(((), 0, 0, 3), ("low", 2), (((), 3),) * many, (3,)) for many in range(3)], [3, 0, 0])
        self.same([lacking(((), 0, 0, 3), ("low", 2), (((), 2),) * many, (2,)) for many in range(4)], [3, 2, 1, 0])
        down = ((SWITCH_DOWN,), 0, 1, 2)
        self.same(lacking_points(down, ("each", 0), (), (2, 0)), ((0,), (1,)))
        self.same(lacking_points(down, ("each", 0), (((0,), 1),), (1, 1)), ((1,),))
        self.same(lacking(((DIAL, SWITCH), 1, 1, 1), ("all", 1), (((0, 1), 0),), (0, 1)), 4)

    def test_refusals(self):
        wrong = (((0, 0), 1),)
        for call in CALLS:
            for rule in NO_RULES:
                self.fails(NotUsable, {"word": "rule", "at": -1}, call, TWO, rule, None, None)
                self.fails(NotUsable, {"word": "rule", "at": -1}, call, table=F, log=wrong, rule=rule, bench=TWO)
            self.fails(NotUsable, {"word": "rule", "at": -1}, call, WARN, ("yes", 1), wrong, F)
            for log in NO_LOGS:
                self.fails(NotUsable, {"word": "log", "at": -1}, call, WARN, ("all", 1), log, None)
                self.fails(NotUsable, {"word": "log", "at": -1}, call, table=F, log=log, rule=("low", 1), bench=WARN)
            for table in NO_TABLES + ODD:
                # The first wrong answer is told behind all other refusals.
                self.fails(NotUsable, {"word": "table", "at": -1}, call, TWO, ("yes", 1), wrong, table)
                self.fails(NotUsable, {"word": "table", "at": -1}, call, table=table, log=(), rule=("each", 1), bench=TWO)
            self.fails(NotUsable, {"word": "log", "at": 0}, call, TWO, ("all", 1), wrong, F)
            self.fails(NotUsable, {"word": "log", "at": 199}, call, TWO, ("all", 9), (((0, 1), 1),) * 199 + wrong, F)
