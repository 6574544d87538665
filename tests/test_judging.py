"""Points 59 and 60: judging a stated table, and at most how many tests are left."""

import random

from stubbornest.claims import claim_price
from stubbornest.errors import NotUsable
from stubbornest.judging import judge
from stubbornest.mostcosts import most_for
from stubbornest.prices import price_span
from stubbornest.shapes import ladder
from tests.cases import Case
from tests.samples import DIAL, MIX, NONE, NO_NUMBERS, ODD, SWITCH, SWITCH_DOWN, TWO, WARN
from tests.test_following import NO_GRADES, few_rules, ways
from tests.test_knowns import NO_KNOWNS, distinct, some_knowns
from tests.test_prices import NO_RULES
from tests.test_tables import NO_TABLES
from tests.worlds import TINY, WORLDS

F = (0, 1, 1, 1)


def judgements(world, rule, table):
    """All sequences of grades that the judge of the table takes, and those that are one too long."""
    rows = [()]
    while rows:
        grades = rows.pop()
        told = world.judge(rule, table, grades)
        yield grades, told
        if not isinstance(told, int):
            rows.extend([grades + (grade,) for grade in range(world.top + 1 if told[2] is None else 1)])


class Judge(Case):
    def check(self, world, rule, table, grades, told):
        """That judge tells this, and what the consequences say of the tables that fit."""
        if isinstance(told, int):
            self.fails(NotUsable, {"word": "grades", "at": told}, judge, world.bench, rule, table, grades)
            return
        self.same(judge(world.bench, rule, table, grades), told)
        points, following, verdict = told
        self.same(following is None, verdict is not None)
        fitting = world.fitting(rule, tuple(zip(points, grades)))
        if fitting:
            price = claim_price(world.bench, rule, table)
            self.same(len(grades) < price if verdict is None else len(grades) <= price, True)
            if verdict is not None:
                self.same(verdict, fitting == [table])
                self.same(verdict, table in fitting)

    def test_examples(self):
        self.same(judge(TWO, ("all", 1), F, (1, 1, 1)), (((0, 1), (0, 1), (1, 0)), (1, 0), None))

    def test_all_sequences_of_grades(self):
        for world in TINY:
            for rule in few_rules(world):
                # The more grades there are, the fewer of the tables.
                for table in world.tables[::1 + rule[1] * len(world.tables) // 4]:
                    for grades, told in judgements(world, rule, table):
                        self.check(world, rule, table, grades, told)

    def test_random_sequences(self):
        rng = random.Random(59)
        for world in WORLDS:
            for rule in world.rules((0, 1, 2)):
                stated = rng.choice(world.tables)
                for table in (stated, rng.choice(world.tables)):
                    grades, told = (), world.judge(rule, stated, ())
                    while not isinstance(told, int) and told[2] is None:
                        self.check(world, rule, stated, grades, told)
                        right = table[world.at[told[1]]]
                        grades += (rng.choice([right] * 5 + [rng.randint(0, world.top)]),)
                        told = world.judge(rule, stated, grades)
                    self.check(world, rule, stated, grades, told)

    def test_just_the_price_is_needed_for_some_answers(self):
        for world in TINY:
            for rule in few_rules(world):
                for table in world.tables[::2]:
                    ended = [
                        len(grades) for grades, told in judgements(world, rule, table)
                        if not isinstance(told, int) and told[2] is not None
                        and world.fitting(rule, tuple(zip(told[0], grades)))
                    ]
                    self.same(max(ended), claim_price(world.bench, rule, table))

    def test_the_sequence_of_the_points(self):
        # Lowerable ones that are not raisable come first; what is both comes among the raisable ones.
        bench = ((SWITCH, SWITCH), 1, 1, 2)
        told = judge(grades=(0,), table=(1, 2), rule=("all", 0), bench=bench)
        self.same(told, (((1, 0),), None, False))
        self.same(judge(bench, ("low", 0), (1, 2), (2,)), (((1, 0),), (0, 1), None))
        self.same(judge(bench, ("low", 0), (1, 2), (2, 1)), (((1, 0), (0, 1)), None, True))
        self.same(judge(bench, ("low", 0), (1, 0), ()), ((), (0, 1), None))
        self.same(judge(bench, ("low", 0), (2, 2), (2,)), (((0, 1),), (1, 0), None))

    def test_verdicts(self):
        self.same(judge(TWO, ("all", 0), F, (1, 1, 0)), (((0, 1), (1, 0), (0, 0)), None, True))
        self.same(judge(TWO, ("all", 0), F, (1, 1, 1)), (((0, 1), (1, 0), (0, 0)), None, False))
        self.same(judge(TWO, ("all", 0), F, (0,)), (((0, 1),), None, False))
        self.same(judge(TWO, ("all", 1), F, (0, 1, 1)), (((0, 1),) * 3, (1, 0), None))
        # The one wrong answer is spent, so each further point takes one test.
        self.same(judge(TWO, ("all", 1), F, (0, 1, 1, 1)), (((0, 1),) * 3 + ((1, 0),), (0, 0), None))
        self.same(judge(TWO, ("each", 1), F, (0, 1, 1, 1)), (((0, 1),) * 3 + ((1, 0),), (1, 0), None))
        self.same(judge(TWO, ("yes", 1), F, (1, 1, 0, 0)), (((0, 1), (1, 0), (0, 0), (0, 0)), None, True))

    def test_from_nothing_to_top(self):
        # Follow would know that a point above a 1 is not 0; the judge asks on.
        bench = ((SWITCH,), 0, 1, 2)
        self.same(judge(bench, ("all", 0), (1, 2), (2, 0)), (((1,), (0,)), None, False))
        self.same(judge(bench, ("low", 1), (1, 2), (2, 1)), (((1,), (0,)), (0,), None))
        self.fails(NotUsable, {"word": "grades", "at": 2}, judge, bench, ("low", 0), (1, 2), (2, 0, 1))

    def test_no_slots_one_rank_other_levels(self):
        self.same(judge(NONE, ("yes", 1), (0,), ()), ((), (), None))
        self.same(judge(NONE, ("yes", 1), (0,), (0, 0)), (((), ()), None, True))
        self.same(judge(NONE, ("yes", 1), (1,), (0, 1)), (((), ()), None, True))
        self.same(judge(NONE, ("yes", 1), (1,), (0, 0)), (((), ()), None, False))
        down = ((SWITCH_DOWN,), 0, 1, 1)
        self.same(judge(down, ("all", 0), (1, 0), (1, 0)), (((0,), (1,)), None, True))
        cut = ((DIAL, SWITCH), 1, 1, 1)
        self.same(judge(cut, ("all", 0), (1, 0), (1,)), (((0, 1),), (1, 0), None))

    def test_grades_that_cannot_come(self):
        self.fails(NotUsable, {"word": "grades", "at": 3}, judge, TWO, ("all", 0), F, (1, 1, 0, 0))
        self.fails(NotUsable, {"word": "grades", "at": 1}, judge, TWO, ("all", 0), F, (0, 0, 0))
        self.fails(NotUsable, {"word": "grades", "at": 1}, judge, WARN, ("low", 0), (0, 0, 0, 2), (1, 2))
        self.fails(NotUsable, {"word": "grades", "at": 2}, judge, WARN, ("all", 1), (0, 1, 1, 2), (0, 1, 2))
        self.fails(NotUsable, {"word": "grades", "at": 2}, judge, NONE, ("yes", 1), (0,), (0, 0, 1))

    def test_refusals(self):
        for rule in NO_RULES:
            self.fails(NotUsable, {"word": "rule", "at": -1}, judge, TWO, rule, F, ())
            self.fails(NotUsable, {"word": "rule", "at": -1}, judge, TWO, rule, None, None)
        self.fails(NotUsable, {"word": "rule", "at": -1}, judge, WARN, ("yes", 1), F, ())
        for table in NO_TABLES + ODD:
            self.fails(NotUsable, {"word": "table", "at": -1}, judge, TWO, ("all", 1), table, ())
            self.fails(NotUsable, {"word": "table", "at": -1}, judge, TWO, ("all", 1), table, None)
            self.fails(NotUsable, {"word": "table", "at": -1}, judge, grades=(), table=table, rule=("yes", 1), bench=TWO)
        for grades in NO_GRADES + ((0, 2), (10 ** 60 - 1,), (0, 0, 0, 0, 0, 2)):
            self.fails(NotUsable, {"word": "grades", "at": -1}, judge, TWO, ("all", 1), F, grades)
            self.fails(NotUsable, {"word": "grades", "at": -1}, judge, grades=grades, table=F, rule=("yes", 1), bench=TWO)


def most_by_words(world, rule, known, still):
    word, e = rule
    many = world.at_most(known)
    if many == 0:
        return 0
    if word != "yes":
        return {"all": (still + 1) * many + still, "each": (2 * e + 1) * many, "low": (e + 1) * many}[word]
    if not world.upper_first(rule):
        return (still + 1) * many
    free = world.unsettled(known)
    counts = [len([point for point in row if world.at[point] in free]) for _, _, row in world.rows]
    return sum(still + min(world.run + 2, count) for count in counts if count)


class MostFor(Case):
    def test_examples(self):
        self.same(most_for(TWO, ("all", 1), (((0, 1), 0),), 1), 5)
        self.same(most_for(TWO, ("yes", 1), (((0, 1), 0),), 1), 3)

    def test_by_the_words(self):
        for world in WORLDS:
            for rule in world.rules((0, 1, 2, 9)):
                for known in list(some_knowns(world))[::29]:
                    known = distinct(known)
                    for still in sorted({0, rule[1] // 2, rule[1]}):
                        told = most_for(still=still, known=known, rule=rule, bench=world.bench)
                        self.same(told, most_by_words(world, rule, known, still))

    def test_at_the_beginning_and_at_the_end(self):
        for world in WORLDS:
            for rule in world.rules((0, 1, 2, 9)):
                self.same(most_for(world.bench, rule, (), rule[1]), price_span(world.bench, rule)[1])
                known = world.known(world.tables[-1], range(len(world.points)))
                self.same(most_for(world.bench, rule, known, 0), 0)
                self.same(most_for(world.bench, rule, known, rule[1]), 0)

    def test_follow_never_needs_more(self):
        for world in TINY:
            for rule in few_rules(world):
                left = {}
                told = {grades: one for grades, one in ways(world, rule) if not isinstance(one, int)}
                for grades in sorted(told, key=len, reverse=True):
                    behind = [left[grades + (g,)] for g in range(world.top + 1) if grades + (g,) in left]
                    left[grades] = 1 + max(behind) if behind else 0
                    _, known, still, _ = told[grades]
                    ahead = told[grades[:-1]][1] if grades else None
                    # Only where no answer at the point that is asked was told so far.
                    if known != ahead:
                        self.assertLessEqual(left[grades], most_for(world.bench, rule, known, still))

    def test_both_forms_under_yes(self):
        # Uppermost points first, and else.
        self.same([most_for(MIX, ("yes", e), (), e) for e in range(3)], [4, 7, 9])
        wide = ((ladder(9),), 0, 8, 1)
        self.same([most_for(wide, ("yes", 3), (), still) for still in range(4)], [9, 10, 11, 12])
        self.same([most_for(wide, ("yes", 0), (), still) for still in range(1)], [4])
        self.same([most_for(wide, ("yes", 1), (), still) for still in range(2)], [4, 8])
        self.same(most_for(NONE, ("yes", 4), (), 2), 3)

    def test_refusals(self):
        for rule in NO_RULES:
            self.fails(NotUsable, {"word": "rule", "at": -1}, most_for, TWO, rule, (), 0)
            self.fails(NotUsable, {"word": "rule", "at": -1}, most_for, TWO, rule, None, None)
        self.fails(NotUsable, {"word": "rule", "at": -1}, most_for, WARN, ("yes", 1), (), 0)
        for known in NO_KNOWNS:
            self.fails(NotUsable, {"word": "known", "at": -1}, most_for, WARN, ("low", 1), known, 0)
            self.fails(NotUsable, {"word": "known", "at": -1}, most_for, WARN, ("low", 1), known, None)
        full = (((0, 0), 1), ((0, 1), 1), ((1, 0), 1), ((1, 1), 1))
        for still in NO_NUMBERS + (3, 10 ** 60 - 1):
            for known in ((), full):
                self.fails(NotUsable, {"word": "still", "at": -1}, most_for, TWO, ("yes", 2), known, still)
                self.fails(
                    NotUsable, {"word": "still", "at": -1}, most_for, still=still, known=known, rule=("each", 2), bench=TWO
                )
