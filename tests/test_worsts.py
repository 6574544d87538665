"""Point 58: settled courses, the worst of them, and what tables tell with wrong answers."""

import itertools
import random

from stubbornest.errors import NotUsable
from stubbornest.following import follow
from stubbornest.plancourses import longest_course, plan_course
from stubbornest.prices import price_span
from stubbornest.shapes import flat, ladder
from stubbornest.telling import follow_table, told_grades
from stubbornest.worsts import settled_course, worst_told
from tests.cases import Case
from tests.samples import DIAL, MIX, NONE, NO_NUMBERS, ODD, SWITCH, SWITCH_DOWN, TWO, WARN
from tests.test_following import few_rules, ways
from tests.test_prices import NO_RULES
from tests.test_tables import NO_TABLES
from tests.worlds import TINY, WORLDS

F = (0, 1, 1, 1)


class Settled(Case):
    def test_examples(self):
        told = settled_course(MIX, ("yes", 1), (0, 1, 0, 1, 1, 1))
        self.same(told, (((1, 1), 1), ((0, 1), 1), ((2, 0), 1), ((1, 0), 0)))

    def test_of_all_tables(self):
        for world in WORLDS:
            for rule in world.rules((0, 1, 3)):
                for table in world.tables[::max(1, len(world.tables) // 20)]:
                    course = settled_course(world.bench, rule, table)
                    self.same(course, world.course(table, (), world.upper_first(rule))[0])
                    if rule[1] == 0:
                        self.same(course, plan_course(world.bench, table))

    def test_as_follow_is_told_the_grades_of_the_table(self):
        for world in TINY:
            for rule in world.rules((0, 1, 2)):
                for table in world.tables:
                    grades, joined = (), []
                    points, known, still, following = follow(world.bench, rule, ())
                    while following is not None:
                        grades += (table[world.at[following]],)
                        points, more, still, following = follow(world.bench, rule, grades)
                        joined += [answer for answer in more if answer not in known]
                        known = more
                    self.same(still, rule[1])
                    self.same(settled_course(table=table, rule=rule, bench=world.bench), tuple(joined))
                    self.same(told_grades(world.bench, rule, table, ()), grades)

    def test_no_slots_one_rank_other_levels(self):
        self.same(settled_course(NONE, ("yes", 2), (1,)), (((), 1),))
        self.same(settled_course(((SWITCH_DOWN,), 0, 1, 2), ("low", 2), (1, 0)), (((0,), 1), ((1,), 0)))
        self.same(settled_course(((DIAL, SWITCH), 1, 1, 1), ("yes", 2), (1, 0)), (((0, 1), 1), ((1, 0), 0)))


class Worst(Case):
    def test_examples(self):
        self.same((worst_told(MIX, ("yes", 1)), worst_told(MIX, ("all", 1))), (6, 9))
        self.same(worst_told(TWO, ("all", 1)), 7)

    def test_over_all_tables(self):
        for world in WORLDS:
            for rule in world.rules((0, 1, 3)):
                word, e = rule
                courses = [world.course(table, (), world.upper_first(rule))[0] for table in world.tables]
                if word == "yes":
                    grades = [[grade for _, grade in course] for course in courses]
                    wanted = max((e + 1) * row.count(0) + row.count(1) for row in grades)
                else:
                    wanted = world.times(rule, max(len(course) for course in courses))
                self.same(worst_told(rule=rule, bench=world.bench), wanted)
                least, most = price_span(world.bench, rule)
                self.same(least <= wanted <= most, True)

    def test_over_all_sequences_of_grades(self):
        for world in TINY:
            for rule in few_rules(world):
                ended = [len(g) for g, told in ways(world, rule) if not isinstance(told, int) and told[3] is None]
                self.same(worst_told(world.bench, rule), max(ended))

    def test_two_thousand_tables(self):
        for bench in (((ladder(61),), 0, 60, 2), ((flat(3),), 0, 0, 9)):
            self.same(worst_told(bench, ("all", 9)), 10 * longest_course(bench) + 9)
            self.same(worst_told(bench, ("each", 9)), 19 * longest_course(bench))
            self.same(worst_told(bench, ("low", 9)), 10 * longest_course(bench))
        self.same(worst_told(((flat(10),), 0, 0, 1), ("yes", 9)), 100)

    def test_refusals(self):
        for rule in NO_RULES:
            self.fails(NotUsable, {"word": "rule", "at": -1}, worst_told, TWO, rule)
            self.fails(NotUsable, {"word": "rule", "at": -1}, worst_told, rule=rule, bench=TWO)
            self.fails(NotUsable, {"word": "rule", "at": -1}, settled_course, TWO, rule, F)
            self.fails(NotUsable, {"word": "rule", "at": -1}, settled_course, TWO, rule, None)
        for call in (worst_told, lambda bench, rule: settled_course(bench, rule, F)):
            self.fails(NotUsable, {"word": "rule", "at": -1}, call, WARN, ("yes", 1))
        for table in NO_TABLES + ODD:
            self.fails(NotUsable, {"word": "table", "at": -1}, settled_course, TWO, ("yes", 1), table)
            self.fails(NotUsable, {"word": "table", "at": -1}, settled_course, table=table, rule=("all", 1), bench=TWO)


def told_by_words(world, rule, table, wrongs):
    """The grades told and the log; the grades are None if the table does not fit the answers."""
    instead = dict(wrongs)
    grades, log = (), ()
    while True:
        told = world.follow(rule, grades)
        if isinstance(told, int) or told[3] is None:
            return (grades if not isinstance(told, int) and world.fits(rule, log, table) else None), log
        grade = instead.get(len(grades), table[world.at[told[3]]])
        grades, log = grades + (grade,), log + ((told[3], grade),)


def choices(world, many, longest):
    """All wrongs with at most so many pairs, with numbers below longest."""
    for size in range(many + 1):
        for numbers in itertools.combinations(range(longest), size):
            for grades in itertools.product(range(world.top + 1), repeat=size):
                yield tuple(zip(numbers, grades))


class Told(Case):
    def check(self, world, rule, table, wrongs):
        grades, log = told_by_words(world, rule, table, wrongs)
        if grades is None:
            for call in (told_grades, follow_table):
                self.fails(NotUsable, {"word": "wrongs", "at": -1}, call, world.bench, rule, table, wrongs)
            return 0
        self.same(told_grades(world.bench, rule, table, wrongs), grades)
        told = follow_table(world.bench, rule, table, wrongs)
        self.same(told, follow(world.bench, rule, grades))
        self.same(told[3], None)
        self.same(set(told[1]) <= set(zip(world.points, table)), True)
        self.same(world.like(told[1]), [table])
        if rule[0] == "all":
            wrong = len([grade for point, grade in log if grade != table[world.at[point]]])
            self.assertLessEqual(len(grades), (rule[1] + 1) * len(told[1]) + wrong)
        return len(grades)

    def test_examples(self):
        self.same(told_grades(TWO, ("all", 1), F, ((1, 0),)), (1, 0, 1, 1, 0))

    def test_each_choice_of_wrong_answers_that_fits(self):
        for world in TINY:
            for rule in few_rules(world):
                for grades, told in ways(world, rule):
                    if not isinstance(told, int) and told[3] is None:
                        table, = world.like(told[1])
                        right = [table[world.at[point]] for point in told[0]]
                        wrongs = tuple((n, g) for n, (g, other) in enumerate(zip(grades, right)) if g != other)
                        self.same(told_grades(world.bench, rule, table, wrongs), grades)
                        self.same(follow_table(world.bench, rule, table, wrongs), told)

    def test_each_choice_of_few_wrong_answers(self):
        for world in TINY:
            for rule in world.rules((0, 1)):
                if len(world.points) <= 3 or (rule[1] == 0 and len(world.points) <= 5):
                    longest = worst_told(world.bench, rule)
                    for table in world.tables:
                        for wrongs in choices(world, rule[1] + 1, longest + 1):
                            self.assertLessEqual(self.check(world, rule, table, wrongs), longest)

    def test_random_choices(self):
        rng = random.Random(58)
        for world in WORLDS:
            for rule in world.rules((1, 2)):
                table = rng.choice(world.tables)
                longest = worst_told(world.bench, rule)
                for _ in range(3):
                    numbers = sorted(rng.sample(range(longest), min(longest, rng.randint(0, rule[1] + 1))))
                    wrongs = tuple((number, rng.randint(0, world.top)) for number in numbers)
                    self.assertLessEqual(self.check(world, rule, table, wrongs), longest)

    def test_pairs_that_play_no_part(self):
        for wrongs in ((), ((7, 0),), ((10 ** 59, 1),), ((3, 0), (10 ** 59, 1)), ((0, 1), (1, 1))):
            self.same(told_grades(wrongs=wrongs, table=F, rule=("low", 0), bench=TWO), (1, 1, 0))
        self.same(told_grades(NONE, ("yes", 1), (1,), ((0, 0), (1, 1), (2, 0))), (0, 1))
        self.same(follow_table(wrongs=((0, 0),), table=(1,), rule=("yes", 1), bench=NONE), (((), ()), (((), 1),), 0, None))

    def test_refusals(self):
        for call in (told_grades, follow_table):
            for rule in NO_RULES:
                self.fails(NotUsable, {"word": "rule", "at": -1}, call, TWO, rule, F, ())
                self.fails(NotUsable, {"word": "rule", "at": -1}, call, TWO, rule, None, None)
            self.fails(NotUsable, {"word": "rule", "at": -1}, call, WARN, ("yes", 1), F, ())
            for table in NO_TABLES + ODD:
                self.fails(NotUsable, {"word": "table", "at": -1}, call, TWO, ("all", 1), table, ())
                self.fails(NotUsable, {"word": "table", "at": -1}, call, TWO, ("all", 1), table, None)
            near = tuple(((number, 0),) for number in NO_NUMBERS) + tuple(((9, grade),) for grade in NO_NUMBERS + (2,)) + (
                [(1, 0)], ((1, 0), (1, 0)), ((2, 0), (1, 0)), ([1, 0],), ((1, 0, 0),), ((1,),), (1, 0), ((1, 0), None), "10",
            ) + tuple(thing for thing in ODD if thing != ())
            for wrongs in near:
                self.fails(NotUsable, {"word": "wrongs", "at": -1}, call, TWO, ("all", 1), F, wrongs)
                self.fails(NotUsable, {"word": "wrongs", "at": -1}, call, wrongs=wrongs, table=F, rule=("yes", 1), bench=TWO)

    def test_tables_that_do_not_fit(self):
        for rule, wrongs in (
            (("all", 0), ((0, 0),)), (("all", 1), ((0, 0), (1, 0))), (("each", 1), ((0, 0), (1, 0))), (("low", 0), ((0, 0),)),
            (("low", 9), ((5, 1),)), (("yes", 9), ((5, 1),)), (("yes", 1), ((0, 0), (1, 0))),
        ):
            for call in (told_grades, follow_table):
                self.fails(NotUsable, {"word": "wrongs", "at": -1}, call, TWO, rule, F, wrongs)
