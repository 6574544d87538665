"""Points 67 to 69: falling answers, partings into falling rows, mild tables."""

import random

from stubbornest.errors import InvalidPaper, NotUsable
from stubbornest.falling import falling_rows, falls, fewest_wrong
from stubbornest.fallingchecker import lets_falling
from stubbornest.mildest import mild_tables
from stubbornest.shapes import ladder
from tests.cases import Case
from tests.samples import DIAL, MIX, NONE, ODD, SWITCH, SWITCH_DOWN, TWO, WARN
from tests.test_logs import NO_LOGS
from tests.worlds import WORLDS, World

TOLD = (((0, 0), 1), ((0, 1), 0), ((1, 0), 0))
NO_ANSWERS = ODD + (
    ((0, 1), True), ((0, True), 1), ((0, 2), 1), ((0, 1), 3), [(0, 1), 1], ((0, 1),), ((0, 1), 1, 1), ([0, 1], 1), (0, 1),
)

# Rows, word and place, for the log TOLD: the first falls to both other ones.
FAULTS = (
    (None, "shape", -1), ([(0, 1), (2,)], "shape", -1), ("", "shape", -1), (3, "shape", -1), (True, "shape", -1),
    (((0, 1), [2]), "falling", 1), (((0, 1), ()), "falling", 1), ((0, (1,)), "falling", 0), (((0, 1), None), "falling", 1),
    (("", (0, 1)), "falling", 0), (((0, 1), 2), "falling", 1),
    (((0, 3), (1,)), "index", (0, 1)), (((0, True), (2,)), "index", (0, 1)), (((False, 1), (2,)), "index", (0, 0)),
    (((0, 1), (-1,)), "index", (1, 0)), (((0, 1), (None,)), "index", (1, 0)), (((0, "1"),), "index", (0, 1)),
    (((0, 1), ((2,),)), "index", (1, 0)), (((0, 1), ([2],)), "index", (1, 0)), (((10 ** 60 - 1,),), "index", (0, 0)),
    (((0, 1), (1,)), "twice", (1, 0)), (((0, 0), (1,), (2,)), "twice", (0, 1)), (((0, 1), (2,), (0,)), "twice", (2, 0)),
    (((1, 0), (2,)), "falls", (0, 1)), (((0, 1, 2),), "falls", (0, 2)), (((1, 2), (0,)), "falls", (0, 1)),
    ((), "lacking", 0), (((0, 1),), "lacking", 2), (((0, 2),), "lacking", 1), (((1,), (2,)), "lacking", 0),
)
SEVERAL = (
    (((0, 3), [1]), "index", (0, 1)), (((0, 0), (3,)), "twice", (0, 1)), (((1, 0, 3),), "falls", (0, 1)),
    (((1, 3, 0),), "index", (0, 1)), (((1, 2), ()), "falls", (0, 1)), (((), (1, 0)), "falling", 0),
    (((0, 1), (1, 5)), "twice", (1, 0)), (((1, 0),), "falls", (0, 1)), (((0, 1, 1),), "twice", (0, 2)),
    (((2, 2),), "twice", (0, 1)), (((0,), (3, 3)), "index", (1, 0)),
)


class Falls(Case):
    def test_examples(self):
        self.same(falls(TWO, ((0, 1), 1), ((0, 1), 0)), True)
        self.same(fewest_wrong(TWO, TOLD), 1)

    def test_all_pairs(self):
        for world in WORLDS:
            if len(world.points) * (world.top + 1) <= 20:
                answers = [(point, grade) for point in world.points for grade in range(world.top + 1)]
                for one in answers:
                    for other in answers:
                        self.same(falls(world.bench, one, other), world.falls(one, other))
                        self.same(falls(other=other, one=one, bench=world.bench), world.falls(one, other))

    def test_refusals(self):
        for thing in NO_ANSWERS:
            self.fails(NotUsable, {"word": "one", "at": -1}, falls, WARN, thing, ((0, 1), 1))
            self.fails(NotUsable, {"word": "one", "at": -1}, falls, WARN, thing, None)
            self.fails(NotUsable, {"word": "one", "at": -1}, falls, other=((0, 1), 1), one=thing, bench=WARN)
            self.fails(NotUsable, {"word": "other", "at": -1}, falls, WARN, ((0, 1), 1), thing)
            self.fails(NotUsable, {"word": "other", "at": -1}, falls, other=thing, one=((0, 1), 1), bench=WARN)


class Rows(Case):
    def check(self, world, log):
        fewest = world.fewest(log)
        self.same(fewest_wrong(world.bench, log), fewest, log)
        self.same(fewest_wrong(log=log, bench=world.bench), fewest)
        rows = falling_rows(world.bench, log)
        self.same(len(rows), len(log) - fewest)
        self.same(rows.__class__, tuple)
        self.same(sorted(index for row in rows for index in row), list(range(len(log))))
        for row in rows:
            self.same((row.__class__, len(row) > 0), (tuple, True))
            for one, other in zip(row, row[1:]):
                self.same(world.falls(log[one], log[other]), True)
        self.same(rows, falling_rows(log=log, bench=world.bench))
        self.same(lets_falling(world.bench, log, rows), fewest)

    def test_against_all_tables(self):
        rng = random.Random(70)
        for world in WORLDS:
            for log in world.some_logs(rng, 16, 12):
                self.check(world, log)

    def test_many_answers_on_a_ladder(self):
        # On one chain with two grades all tables are quickly gone through.
        rng = random.Random(71)
        for many, top in ((40, 1), (9, 4), (3, 9)):
            world = World(((ladder(many),), 0, many - 1, top))
            for size in (150, 200):
                self.check(world, world.some_log(rng, size))
                self.check(world, world.some_log(rng, size, 0))

    def test_one_more_answer(self):
        rng = random.Random(72)
        for world in WORLDS:
            log = world.some_log(rng, 10, 0.6)
            numbers = [fewest_wrong(world.bench, log[:many]) for many in range(len(log) + 1)]
            self.same(all(one <= other <= one + 1 for one, other in zip(numbers, numbers[1:])), True)
            none = not any(world.falls(one, other) for one in log for other in log)
            self.same(numbers[-1] == 0, none)

    def test_the_sequence_plays_no_part(self):
        rng = random.Random(73)
        for world in WORLDS:
            log = list(world.some_log(rng, 9, 0.5))
            number = fewest_wrong(world.bench, tuple(log))
            rng.shuffle(log)
            self.same(fewest_wrong(world.bench, tuple(log)), number)

    def test_no_answers(self):
        self.same((fewest_wrong(TWO, ()), falling_rows(TWO, ()), mild_tables(TWO, ())), (0, (), (0, (0,) * 4, (1,) * 4)))

    def test_refusals(self):
        for log in NO_LOGS:
            for call in (fewest_wrong, falling_rows, mild_tables):
                self.fails(NotUsable, {"word": "log", "at": -1}, call, WARN, log)
                self.fails(NotUsable, {"word": "log", "at": -1}, call, log=log, bench=WARN)
            self.fails(NotUsable, {"word": "log", "at": -1}, lets_falling, WARN, log, ())
            self.fails(NotUsable, {"word": "log", "at": -1}, lets_falling, WARN, log, None)


class Checker(Case):
    def test_examples(self):
        self.same(lets_falling(TWO, TOLD, ((0, 2), (1,))), 1)
        self.fails(InvalidPaper, {"word": "twice", "at": (1, 0)}, lets_falling, TWO, TOLD, ((0, 1), (1,)))

    def test_each_entry(self):
        for thing, word, at in FAULTS + SEVERAL:
            self.fails(InvalidPaper, {"word": word, "at": at}, lets_falling, TWO, TOLD, thing)
            self.fails(InvalidPaper, {"word": word, "at": at}, lets_falling, thing=thing, log=TOLD, bench=TWO)

    def test_accepted(self):
        self.same(lets_falling(TWO, TOLD, ((0,), (1,), (2,))), 0)
        self.same(lets_falling(TWO, TOLD, ((2,), (0, 1))), 1)
        self.same(lets_falling(TWO, (), ()), 0)
        self.fails(InvalidPaper, {"word": "falling", "at": 0}, lets_falling, TWO, (), ((),))
        self.fails(InvalidPaper, {"word": "index", "at": (0, 0)}, lets_falling, TWO, (), ((0,),))

    def test_odd_values(self):
        for thing in ODD:
            self.raised(lets_falling, WARN, TOLD, thing)
            self.raised(lets_falling, WARN, TOLD, (thing,))
            self.fails(InvalidPaper, {"word": "index", "at": (0, 0)}, lets_falling, WARN, TOLD, ((thing,),))

    def test_it_never_tells_more_than_the_fewest(self):
        rng = random.Random(74)
        for world in WORLDS:
            log = world.some_log(rng, 8, 0.3)
            fewest = world.fewest(log)
            for _ in range(10):
                # Rows are joined wherever that makes a falling row.
                rows = []
                for index in rng.sample(range(len(log)), len(log)):
                    ends = [row for row in rows if world.falls(log[row[-1]], log[index])]
                    if ends and rng.random() < 0.8:
                        rng.choice(ends).append(index)
                    else:
                        rows.append([index])
                told = lets_falling(world.bench, log, tuple(map(tuple, rows)))
                self.same(told, len(log) - len(rows))
                self.assertLessEqual(told, fewest)

    def test_two_hundred_answers(self):
        log = TOLD[:2] * 100
        self.same(lets_falling(TWO, log, falling_rows(TWO, log)), 100)
        self.fails(
            InvalidPaper, {"word": "lacking", "at": 199}, lets_falling, TWO, log, tuple((i,) for i in range(199)),
        )


class Mild(Case):
    def test_example(self):
        self.same(mild_tables(TWO, (((0, 0), 1), ((0, 1), 0))), (1, (0, 0, 0, 0), (1, 1, 1, 1)))

    def check(self, world, log):
        fewest = world.fewest(log)
        mild = [table for table in world.tables if len(world.wrong(log, table)) == fewest]
        least, greatest = tuple(map(min, zip(*mild))), tuple(map(max, zip(*mild)))
        self.same(mild_tables(world.bench, log), (fewest, least, greatest), log)
        self.same(mild_tables(log=log, bench=world.bench), (fewest, least, greatest))
        self.same((least in mild, greatest in mild), (True, True))

    def test_against_all_tables(self):
        rng = random.Random(75)
        for world in WORLDS:
            for log in world.some_logs(rng, 16, 12):
                self.check(world, log)

    def test_many_answers_on_a_ladder(self):
        rng = random.Random(76)
        for many, top in ((40, 1), (9, 4), (3, 9)):
            world = World(((ladder(many),), 0, many - 1, top))
            self.check(world, world.some_log(rng, 200))
            self.check(world, world.some_log(rng, 200, 0))

    def test_lesser_and_greater_together(self):
        rng = random.Random(77)
        for world in WORLDS:
            log = world.some_log(rng, 10, 0.4)
            for _ in range(10):
                one, other = rng.choice(world.tables), rng.choice(world.tables)
                rows = one, other, tuple(map(min, one, other)), tuple(map(max, one, other))
                wrong = [len(world.wrong(log, table)) for table in rows]
                self.same(wrong[0] + wrong[1], wrong[2] + wrong[3])

    def test_no_slots_one_rank_other_levels(self):
        self.same(mild_tables(NONE, (((), 1), ((), 0), ((), 1))), (1, (1,), (1,)))
        self.same(mild_tables(((), 0, 0, 3), (((), 1), ((), 2))), (1, (1,), (2,)))
        self.same(mild_tables(((SWITCH_DOWN,), 0, 1, 2), (((1,), 1), ((0,), 0))), (1, (0, 0), (2, 1)))
        self.same(mild_tables(((DIAL, SWITCH), 1, 1, 1), (((0, 1), 1), ((1, 0), 0))), (0, (1, 0), (1, 0)))
        self.same(mild_tables(MIX, (((2, 1), 0),)), (0, (0,) * 6, (0,) * 6))
        self.same(mild_tables(WARN, (((0, 0), 2), ((0, 1), 0), ((0, 1), 0)))[0], 1)
