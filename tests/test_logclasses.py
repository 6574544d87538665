"""Point 72: logs as objects."""

import random

from stubbornest.errors import NotUsable
from stubbornest.falling import fewest_wrong
from stubbornest.logclasses import Log
from stubbornest.possible import possible_at, shown_table, sure_points, two_fits
from tests.cases import Case
from tests.samples import DIAL, MIX, NONE, NO_NUMBERS, ODD, SWITCH, SWITCH_DOWN, TWO, WARN
from tests.test_prices import NO_RULES
from tests.worlds import WORLDS

ALL = ("all", 1)


def log_of(bench, rule, answers):
    log = Log(bench, rule)
    for point, grade in answers:
        log.add(point, grade)
    return log


class Logs(Case):
    def check(self, world, rule, one, answers):
        bench = world.bench
        self.same((one.answers(), len(one), list(one)), (answers, len(answers), list(answers)))
        for point in world.points:
            self.same(one.possible(point), possible_at(bench, rule, answers, point))
        self.same(one.sure(), sure_points(bench, rule, answers))
        self.same(one.shown(), shown_table(bench, rule, answers))
        self.same(one.two() is None, two_fits(bench, rule, answers) is None)
        self.same(one.fewest(), fewest_wrong(bench, answers))
        if one.two():
            self.same(set(one.two()) <= set(world.fitting(rule, answers)) and one.two()[0] != one.two()[1], True)

    def test_example(self):
        one = Log(TWO, ("each", 0))
        self.same(one.add((0, 1), 1), None)
        self.same(one.add((1, 0), 0), None)
        self.same(one.shown(), (0, 1, 0, 1))

    def test_answers_come_and_go(self):
        rng = random.Random(90)
        for world in WORLDS[::2]:
            for rule in world.rules((0, 1)):
                one, answers = Log(rule=rule, bench=world.bench), ()
                for step in range(8):
                    if answers and rng.random() < 0.3:
                        index = rng.randrange(len(answers))
                        self.same(one.drop(index=index), None)
                        answers = answers[:index] + answers[index + 1:]
                    else:
                        answers += world.some_log(rng, 1, 0.5)
                        point, grade = answers[-1]
                        self.same(one.add(grade=grade, point=point), None)
                    if step % 3 == 0:
                        self.check(world, rule, one, answers)
                self.check(world, rule, one, answers)

    def test_drop(self):
        answers = (((0, 1), 1), ((0, 1), 0), ((1, 1), 1))
        for index in range(3):
            one = log_of(TWO, ALL, answers)
            one.drop(index)
            self.same(one.answers(), answers[:index] + answers[index + 1:])
        for index in (3, -1, 10 ** 59, *NO_NUMBERS):
            one = log_of(TWO, ALL, answers)
            self.fails(NotUsable, {"word": "index", "at": -1}, one.drop, index)
            self.fails(NotUsable, {"word": "index", "at": -1}, one.drop, index=index)
            self.same(one.answers(), answers)
        self.fails(NotUsable, {"word": "index", "at": -1}, Log(TWO, ALL).drop, 0)

    def test_equal(self):
        some = [
            (TWO, ALL, ()), (TWO, ALL, (((0, 1), 1),)), (TWO, ALL, (((0, 1), 0),)), (TWO, ("each", 1), ()), (TWO, ("all", 2), ()),
            (TWO, ALL, (((0, 1), 1), ((0, 1), 0))), (TWO, ALL, (((0, 1), 0), ((0, 1), 1))), (WARN, ALL, ()), (MIX, ALL, ()),
            (WARN, ALL, (((0, 1), 1),)), (TWO, ("yes", 1), ()),
        ]
        for one in some:
            for other in some:
                told = log_of(*one) == log_of(*other)
                self.same((told, log_of(*one) != log_of(*other)), (one == other, one != other))
            log = log_of(*one)
            for thing in ODD + (one, log.answers(), list(log), one[0]):
                self.same((log == thing, log != thing, thing == log), (False, True, False))
        one, other = log_of(TWO, ALL, (((0, 1), 1), ((1, 0), 1))), log_of(TWO, ALL, (((1, 0), 1),))
        one.drop(0)
        self.same(one == other, True)

    def test_any_value_in_it(self):
        one = log_of(TWO, ALL, (((0, 1), 1), ((0, 1), 1), ((1, 1), 0)))
        for thing in one.answers():
            self.same(thing in one, True)
        for thing in ODD + (((0, 1), True), ((0, True), 1), ((1, 1), False), ((0, 1), 0), [(0, 1), 1], ((0, 1), 1, 1), one, (0, 1)):
            self.same(thing in one, False)

    def test_what_was_told_is_not_touched(self):
        one = log_of(TWO, ALL, (((0, 1), 1),))
        told, steps = one.answers(), iter(one)
        one.add((1, 1), 0)
        one.drop(0)
        self.same((told, list(steps), one.answers()), ((((0, 1), 1),), [((0, 1), 1)], (((1, 1), 0),)))

    def test_two_hundred_answers(self):
        one = Log(TWO, ("all", 9))
        for number in range(200):
            one.add((1, 0), int(number % 20 == 0 and number < 180))
        self.same((len(one), one.fewest(), one.possible((1, 0)), one.possible((0, 0))), (200, 9, (0,), (0,)))
        self.same((one.sure(), one.shown()), ((((0, 0), 0), ((1, 0), 0)), None))
        for _ in range(200):
            one.drop(0)
        self.same(one == Log(TWO, ("all", 9)), True)

    def test_no_slots_one_rank_other_levels(self):
        one = log_of(NONE, ("yes", 1), (((), 0), ((), 1)))
        self.same((one.shown(), one.sure(), one.two(), one.fewest(), one.possible(())), ((1,), (((), 1),), None, 1, (1,)))
        down = log_of(((SWITCH_DOWN,), 0, 1, 2), ("low", 0), (((1,), 2),))
        self.same((down.shown(), down.possible((0,))), ((2, 2), (2,)))
        cut = log_of(((DIAL, SWITCH), 1, 1, 1), ALL, (((1, 0), 1), ((1, 0), 1)))
        self.same((cut.sure(), cut.possible((0, 1))), ((((1, 0), 1),), (0, 1)))

    def test_refusals(self):
        for rule in NO_RULES:
            self.fails(NotUsable, {"word": "rule", "at": -1}, Log, TWO, rule)
            self.fails(NotUsable, {"word": "rule", "at": -1}, Log, rule=rule, bench=TWO)
        self.fails(NotUsable, {"word": "rule", "at": -1}, Log, WARN, ("yes", 1))
        one = log_of(WARN, ALL, (((0, 1), 1),))
        for point in ODD + ((0, 2), (0, True), [0, 1]):
            self.fails(NotUsable, {"word": "point", "at": -1}, one.add, point, 1)
            self.fails(NotUsable, {"word": "point", "at": -1}, one.add, grade=None, point=point)
            self.fails(NotUsable, {"word": "point", "at": -1}, one.possible, point)
            self.fails(NotUsable, {"word": "point", "at": -1}, one.possible, point=point)
        for grade in NO_NUMBERS + (3, 10 ** 60 - 1):
            self.fails(NotUsable, {"word": "grade", "at": -1}, one.add, (0, 1), grade)
            self.fails(NotUsable, {"word": "grade", "at": -1}, one.add, grade=grade, point=(0, 1))
        self.same(one.answers(), (((0, 1), 1),))
