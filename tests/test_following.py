"""Points 56 and 57: grades that are left, and asking until one is."""

import itertools
import random

from stubbornest.errors import NotUsable
from stubbornest.following import follow, next_under
from stubbornest.nexttests import next_test
from stubbornest.prices import upper_first
from stubbornest.settling import left_grades, off_by
from stubbornest.turns import stretch, wanted
from tests.cases import Case
from tests.samples import DIAL, HUGE, MIX, NONE, NO_NUMBERS, ODD, SWITCH, SWITCH_DOWN, TWO, WARN
from tests.test_knowns import NO_KNOWNS, distinct, some_knowns
from tests.test_prices import NO_RULES
from tests.worlds import TINY, WORDS, WORLDS, left_by_words, off_by_words

NO_GRADES = (None, [0], (0, -1), (0, True), (0, None), "01", (0, "1"), ((0,),), 0, True, {0: 0}, (False,)) + tuple(
    thing for thing in ODD if thing not in ((), (0,) * 9)
)


class Settling(Case):
    def test_by_the_words(self):
        for word in WORDS:
            for e in (0, 1, 2):
                for many in range(5):
                    for grades in itertools.product(range(2 if word == "yes" else 4), repeat=many):
                        for settled in range(3):
                            self.same(off_by((word, e), settled, grades), off_by_words((word, e), settled, grades))
                        if many < 4:
                            self.left((word, e), grades)

    def left(self, rule, grades):
        top = 1 if rule[0] == "yes" else 3
        for still in range(3):
            for least in range(top + 1):
                for most in range(least, top + 1):
                    wanted_grades = left_by_words(rule, still, least, most, grades)
                    self.same(left_grades(rule, still, least, most, grades), wanted_grades)

    def test_each_word(self):
        self.same(left_grades(("all", 9), 1, 0, 3, (2, 2, 1)), (2,))
        self.same(left_grades(("all", 0), 2, 0, 3, (2, 2, 1)), (1, 2))
        self.same(left_grades(("each", 1), 0, 0, 3, (2, 2, 1)), (2,))
        self.same(left_grades(("low", 1), 0, 0, 3, (2, 2, 1)), (2,))
        self.same(left_grades(("low", 2), 0, 0, 3, (1, 1)), (1, 2, 3))
        self.same(left_grades(("yes", 0), 1, 0, 1, (0,)), (0, 1))
        self.same(left_grades(("yes", 5), 0, 0, 1, (0,)), (0,))
        self.same(left_grades(("yes", 5), 0, 0, 1, (0, 1)), ())
        self.same(left_grades(("yes", 5), 3, 0, 1, (0, 1)), (1,))
        self.same(left_grades(grades=(), most=9, least=4, still=0, rule=("low", 0)), (4, 5, 6, 7, 8, 9))
        self.same(left_grades(("each", 0), 0, 2, 2, (3,)), ())
        self.same(off_by(grades=(0, 1, 1, 0, 2), settled=1, rule=("all", 9)), 3)
        self.same([off_by((word, 9), 1, (0, 1, 0)) for word in WORDS], [2, 0, 0, 2])
        self.same(off_by(("all", 0), HUGE, (1, 2)), 2)

    def test_refusals(self):
        for rule in NO_RULES:
            self.fails(NotUsable, {"word": "rule", "at": -1}, left_grades, rule, 0, 0, 1, ())
            self.fails(NotUsable, {"word": "rule", "at": -1}, left_grades, rule, None, None, None, None)
            self.fails(NotUsable, {"word": "rule", "at": -1}, off_by, rule, 0, ())
            self.fails(NotUsable, {"word": "rule", "at": -1}, off_by, rule, None, None)
        for thing in NO_NUMBERS:
            for word in WORDS:
                rule = (word, 1)
                self.fails(NotUsable, {"word": "still", "at": -1}, left_grades, rule, thing, 0, 1, ())
                self.fails(NotUsable, {"word": "still", "at": -1}, left_grades, rule, thing, None, None, None)
                self.fails(NotUsable, {"word": "least", "at": -1}, left_grades, rule, 0, thing, 1, ())
                self.fails(NotUsable, {"word": "least", "at": -1}, left_grades, rule, 0, thing, None, None)
                self.fails(NotUsable, {"word": "most", "at": -1}, left_grades, rule, 0, 0, thing, ())
                self.fails(NotUsable, {"word": "most", "at": -1}, left_grades, rule, 0, 0, thing, None)
                self.fails(NotUsable, {"word": "settled", "at": -1}, off_by, rule, thing, ())
                self.fails(NotUsable, {"word": "settled", "at": -1}, off_by, grades=None, settled=thing, rule=rule)
        self.fails(NotUsable, {"word": "most", "at": -1}, left_grades, ("all", 1), 0, 3, 2, ())
        self.fails(NotUsable, {"word": "most", "at": -1}, left_grades, ("yes", 1), 0, 0, 2, ())
        self.fails(NotUsable, {"word": "most", "at": -1}, left_grades, ("yes", 1), 0, 2, 2, ())
        self.same(left_grades(("low", 1), 0, 2, 2, ()), (2,))
        for grades in NO_GRADES:
            self.fails(NotUsable, {"word": "grades", "at": -1}, left_grades, ("all", 1), 0, 0, 1, grades)
            self.fails(
                NotUsable, {"word": "grades", "at": -1}, left_grades, grades=grades, most=1, least=0, still=0, rule=("yes", 1)
            )
            self.fails(NotUsable, {"word": "grades", "at": -1}, off_by, ("low", 1), 0, grades)


class NextUnder(Case):
    def test_at_many_knowns(self):
        for world in WORLDS:
            for rule in world.rules((0, 1, 3)):
                for known in list(some_knowns(world))[::23]:
                    known = distinct(known)
                    told = next_under(world.bench, rule, known)
                    self.same(told, world.next_test(known, world.upper_first(rule)))
                    if not upper_first(world.bench, rule):
                        self.same(told, next_test(world.bench, known))
                    elif told is not None:
                        self.same(told, stretch(world.bench, known, wanted(world.bench, known)[0], 1)[-1])

    def test_the_uppermost_one(self):
        self.same(next_under(known=(), rule=("yes", 1), bench=MIX), (1, 1))
        self.same(next_under(MIX, ("yes", 1), (((0, 1), 1),)), (2, 0))
        self.same(next_under(MIX, ("yes", 0), (((0, 1), 1),)), (1, 0))
        self.same(next_under(MIX, ("all", 1), (((0, 1), 1),)), (1, 0))
        self.same(next_under(NONE, ("yes", 1), (((), 1),)), None)

    def test_refusals(self):
        for rule in NO_RULES:
            self.fails(NotUsable, {"word": "rule", "at": -1}, next_under, TWO, rule, ())
            self.fails(NotUsable, {"word": "rule", "at": -1}, next_under, TWO, rule, None)
        self.fails(NotUsable, {"word": "rule", "at": -1}, next_under, WARN, ("yes", 1), ())
        for known in NO_KNOWNS:
            self.fails(NotUsable, {"word": "known", "at": -1}, next_under, WARN, ("low", 1), known)
            self.fails(NotUsable, {"word": "known", "at": -1}, next_under, known=known, rule=("all", 0), bench=WARN)


def few_rules(world):
    """Rules for which all sequences of grades can be gone through."""
    return world.rules((0, 1, 2) if len(world.points) <= 2 else (0, 1))


def ways(world, rule):
    """All sequences of grades that follow takes, each with what the words say, and those that are one too long."""
    rows = [()]
    while rows:
        grades = rows.pop()
        told = world.follow(rule, grades)
        yield grades, told
        if not isinstance(told, int):
            # Behind the end, and behind a grade that leaves none, nothing more is tried.
            rows.extend([grades + (grade,) for grade in range(world.top + 1 if told[3] is not None else 1)])


class Follow(Case):
    def test_examples(self):
        self.same(follow(TWO, ("all", 1), (0, 0, 1)), (((0, 1), (0, 1), (1, 1)), (((0, 1), 0),), 1, (1, 1)))
        self.fails(NotUsable, {"word": "grades", "at": 2}, follow, TWO, ("low", 0), (1, 0, 0))

    def test_all_sequences_of_grades(self):
        for world in TINY:
            for rule in few_rules(world):
                for grades, told in ways(world, rule):
                    if isinstance(told, int):
                        self.fails(NotUsable, {"word": "grades", "at": told}, follow, world.bench, rule, grades)
                    else:
                        self.same(follow(world.bench, rule, grades), told)
                        self.what_fits(world, rule, grades, told)

    def what_fits(self, world, rule, grades, told):
        """What the consequences say of the tables that fit these answers."""
        points, known, _, following = told
        log = tuple(zip(points, grades))
        fitting = world.fitting(rule, log)
        self.same(fitting != [], True)
        self.same(following is None, len(fitting) == 1)
        for point, grade in known:
            self.same({table[world.at[point]] for table in fitting}, {grade})
        if following is not None:
            at = world.at[following]
            self.same(len({table[at] for table in fitting}) > 1, True)
            for grade in range(world.top + 1):
                after = world.fitting(rule, log + ((following, grade),))
                more = world.follow(rule, grades + (grade,))
                self.same(isinstance(more, int), after == [])

    def test_random_sequences(self):
        rng = random.Random(57)
        for world in WORLDS:
            for rule in world.rules((0, 1, 2)):
                table = rng.choice(world.tables)
                grades = ()
                told = follow(world.bench, rule, grades)
                while told[3] is not None and len(grades) < 200:
                    right = table[world.at[told[3]]]
                    grades += (rng.choice([right, right, right, rng.randint(0, world.top)]),)
                    wanted_by_words = world.follow(rule, grades)
                    if isinstance(wanted_by_words, int):
                        self.fails(
                            NotUsable, {"word": "grades", "at": wanted_by_words}, follow, world.bench, rule, grades
                        )
                        break
                    told = follow(grades=grades, rule=rule, bench=world.bench)
                    self.same(told, wanted_by_words)

    def test_no_slots_one_rank_other_levels(self):
        self.same(follow(NONE, ("yes", 1), ()), ((), (), 1, ()))
        self.same(follow(NONE, ("yes", 1), (0, 1)), (((), ()), (((), 1),), 0, None))
        self.same(follow(((), 0, 0, 3), ("each", 1), (3, 2, 3)), (((), (), ()), (((), 3),), 1, None))
        down = ((SWITCH_DOWN,), 0, 1, 2)
        self.same(follow(down, ("low", 0), (1,)), (((0,),), (((0,), 1),), 0, (1,)))
        cut = ((DIAL, SWITCH), 1, 1, 1)
        self.same(follow(cut, ("all", 0), (1, 0)), (((0, 1), (1, 0)), (((0, 1), 1), ((1, 0), 0)), 0, None))

    def test_nothing_is_asked_any_more(self):
        self.fails(NotUsable, {"word": "grades", "at": 1}, follow, NONE, ("all", 0), (0, 0, 0))
        self.fails(NotUsable, {"word": "grades", "at": 3}, follow, TWO, ("each", 0), (1, 1, 0, 0))
        self.fails(NotUsable, {"word": "grades", "at": 2}, follow, TWO, ("each", 0), (0, 0, 0))

    def test_refusals(self):
        for rule in NO_RULES:
            self.fails(NotUsable, {"word": "rule", "at": -1}, follow, TWO, rule, ())
            self.fails(NotUsable, {"word": "rule", "at": -1}, follow, TWO, rule, None)
        for grades in NO_GRADES + ((0, 2), (10 ** 60 - 1,)):
            self.fails(NotUsable, {"word": "grades", "at": -1}, follow, TWO, ("all", 1), grades)
            self.fails(NotUsable, {"word": "grades", "at": -1}, follow, grades=grades, rule=("yes", 1), bench=TWO)
        # What is no grade at all comes ahead of what cannot come here.
        self.fails(NotUsable, {"word": "grades", "at": -1}, follow, NONE, ("all", 0), (0, 0, 2))
