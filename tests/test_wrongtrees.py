"""Points 79 to 82: beating a tree, the checker of what beats it, small games, answerers as objects."""

import random

from stubbornest.answererclasses import Answerer
from stubbornest.answering import answers_to, two_left
from stubbornest.beating import beaten
from stubbornest.claims import claim_price
from stubbornest.errors import InvalidPaper, NothingToUndo, NotUsable
from stubbornest.games import whole_game
from stubbornest.prices import price_span
from stubbornest.shapes import flat, ladder
from stubbornest.treejudging import depth_of, first_wrong, is_right
from stubbornest.wrongchecker import lets_wrong
from tests import trees
from tests.cases import Case
from tests.games import Game
from tests.samples import DIAL, MIX, NONE, ODD, PAIRS, SMALL, SWITCH, SWITCH_DOWN, TWO, WARN
from tests.test_answering import told_by_words, pair_by_words
from tests.test_plantrees import ONCE, PLANS, POINT
from tests.test_prices import NO_RULES
from tests.test_tables import NO_TABLES
from tests.test_trees import NO_TREES
from tests.worlds import TINY, WORLDS, World

F = (0, 1, 1, 1)
ALL = ("all", 1)

# A tree of TWO; behind 0 at (0, 1) it tells a table, behind 1 it asks again, with a None.
TREE = ("ask", (0, 1), (("is", (0, 0, 0, 1)), ("ask", (1, 0), (None, ("is", F)))))
LOW, HIGH = (((0, 1), 0),), (((0, 1), 1), ((1, 0), 1))
BARE = (((0, 1), 1), ((1, 0), 0))

# Rule, triple, word: each entry by itself.
FAULTS = (
    (ALL, None, "shape"), (ALL, (LOW, F), "shape"), (ALL, [LOW, (0, 0, 0, 1), F], "shape"), (ALL, (LOW, F, F, F), "shape"),
    (ALL, "abc", "shape"), (ALL, 3, "shape"), (ALL, True, "shape"), (ALL, (), "shape"),
    (ALL, (None, (0, 0, 0, 1), F), "log"), (ALL, (list(LOW), (0, 0, 0, 1), F), "log"), (ALL, ((0, 1), (0, 0, 0, 1), F), "log"),
    (ALL, ((((0, 1), False),), (0, 0, 0, 1), F), "log"), (ALL, ((((0, True), 0),), (0, 0, 0, 1), F), "log"),
    (ALL, ((((0, 1), 2),), (0, 0, 0, 1), F), "log"), (ALL, ("", (0, 0, 0, 1), F), "log"),
    (ALL, ((), (0, 0, 0, 1), F), "way"), (ALL, (HIGH[:1], F, (0, 0, 0, 1)), "way"), (ALL, (HIGH[::-1], F, (0, 0, 0, 1)), "way"),
    (ALL, (LOW + LOW, (0, 0, 0, 1), F), "way"), (ALL, ((((1, 0), 0),), (0, 0, 0, 1), F), "way"), (ALL, (HIGH * 2, F, F), "way"),
    (ALL, (LOW, F, (1, 1, 1, 1)), "told"), (ALL, (LOW, None, F), "told"), (ALL, (LOW, (0, 0, 0, True), F), "told"),
    (ALL, (LOW, [0, 0, 0, 1], F), "told"), (ALL, (BARE, F, (0, 1, 0, 1)), "told"), (ALL, (BARE, False, (0, 1, 0, 1)), "told"),
    (ALL, (BARE, (), (0, 1, 0, 1)), "told"), (ALL, (LOW, (False, 0, 0, 1), F), "told"), (ALL, (LOW, 1, F), "told"),
    (ALL, (LOW, (0, 0, 0, 1), None), "table"), (ALL, (LOW, (0, 0, 0, 1), (1, 0, 0, 0)), "table"),
    (ALL, (LOW, (0, 0, 0, 1), [0, 0, 1, 1]), "table"), (ALL, (LOW, (0, 0, 0, 1), (0, 0, 1, True)), "table"),
    (ALL, (BARE, None, None), "table"), (ALL, (LOW, (0, 0, 0, 1), (0, 0, 1)), "table"), (ALL, (LOW, (0, 0, 0, 1), "0011"), "table"),
    (ALL, (LOW, (0, 0, 0, 1), (0, 0, 0, 1)), "same"), (ALL, (HIGH, F, F), "same"),
    (("all", 0), (LOW, (0, 0, 0, 1), F), "fits"), (("low", 1), (HIGH, F, (0, 0, 0, 1)), "fits"),
    (("yes", 2), (HIGH, F, (0, 0, 1, 1)), "fits"), (("each", 0), (BARE, None, F), "fits"), (ALL, (HIGH, F, (0, 0, 0, 1)), "fits"),
)
SEVERAL = (
    (ALL, (None, None, None), "log"), (ALL, ((), None, None), "way"), (ALL, (LOW, None, None), "told"),
    (ALL, (LOW, (0, 0, 0, 1), (0, 0, 0, True)), "table"), (("all", 0), (HIGH, (0, 0, 0, 1), (0, 0, 0, 1)), "told"),
    (("all", 0), (BARE, None, (1, 0, 0, 0)), "table"), (ALL, (LOW, (0, 0, 0, 1)), "shape"),
    # A table that an end tells need not fit itself.
    (("all", 0), ((((0, 1), 1), ((1, 0), 1)), F, F), "same"),
)
ACCEPTED = (
    (ALL, (LOW, (0, 0, 0, 1), F), 1), (("all", 0), (LOW, (0, 0, 0, 1), (0, 0, 1, 1)), 1), (("each", 1), (HIGH, F, (0, 0, 0, 0)), 2),
    (ALL, (BARE, None, F), 2), (("low", 0), (BARE, None, (0, 1, 0, 1)), 2), (("yes", 1), (HIGH, F, (1, 1, 1, 1)), 2),
)


class Beating(Case):
    def test_example(self):
        self.same(beaten(POINT, ("all", 1), (1,), ONCE), ((((), 1),), (1,), (0,)))

    def check(self, world, rule, table, tree):
        bench = world.bench
        log, told = trees.way(tree, lambda log, point: told_by_words(world, rule, table, log, world.at[point]))
        pair = pair_by_words(world, rule, table, log)
        others = [other for other in pair or (table,) if other != told]
        wanted = (log, told, others[0]) if others else None
        self.same(beaten(bench, rule, table, tree), wanted, rule, table, tree)
        self.same(beaten(tree=tree, table=table, rule=rule, bench=bench), wanted)
        if wanted:
            self.same(lets_wrong(bench, rule, tree, wanted), len(log))
            self.same(lets_wrong(thing=wanted, tree=tree, rule=rule, bench=bench), len(log))
        if len(log) < claim_price(bench, rule, table):
            self.same(wanted is None, False)
        return wanted

    def test_random_trees(self):
        rng = random.Random(99)
        for world in WORLDS:
            for share in (0, 0.3):
                tree = trees.some_tree(rng, world, 4 if world.top == 1 else 2, share)
                for rule in world.rules((0, 1, 2)):
                    self.check(world, rule, rng.choice(world.tables), tree)

    def test_right_trees(self):
        for world, rule, tree in PLANS:
            for table in world.tables:
                self.same(self.check(world, rule, table, tree), None)

    def test_what_first_wrong_finds_is_accepted(self):
        rng = random.Random(100)
        for world in WORLDS:
            tree = trees.some_tree(rng, world, 3 if world.top < 3 else 2, 0.2)
            for rule in world.rules((0, 2)):
                found = first_wrong(world.bench, rule, tree)
                if found is not None:
                    self.same(lets_wrong(world.bench, rule, tree, found), len(found[0]))

    def test_a_wrong_end_that_tells_nothing(self):
        none = ("ask", (0, 1), (None, None))
        self.same(beaten(TWO, ("all", 0), F, none), ((((0, 1), 1),), None, F))
        self.same(beaten(TWO, ("all", 0), (0, 0, 0, 0), ("is", (0, 0, 0, 0))), ((), (0, 0, 0, 0), (0, 0, 0, 1)))
        self.same(beaten(NONE, ("all", 0), (1,), ("ask", (), (("is", (0,)), None))), ((((), 1),), None, (1,)))
        self.same(beaten(NONE, ("all", 0), (1,), ("ask", (), (("is", (0,)), ("is", (0,))))), ((((), 1),), (0,), (1,)))
        self.same(beaten(NONE, ("all", 0), (1,), ONCE), None)

    def test_refusals(self):
        for rule in NO_RULES:
            self.fails(NotUsable, {"word": "rule", "at": -1}, beaten, TWO, rule, None, None)
            self.fails(NotUsable, {"word": "rule", "at": -1}, beaten, tree=TREE, table=F, rule=rule, bench=TWO)
            self.fails(NotUsable, {"word": "rule", "at": -1}, lets_wrong, TWO, rule, None, None)
            self.fails(NotUsable, {"word": "rule", "at": -1}, lets_wrong, thing=None, tree=TREE, rule=rule, bench=TWO)
        self.fails(NotUsable, {"word": "rule", "at": -1}, beaten, WARN, ("yes", 1), F, ("is", F))
        for table in NO_TABLES + ODD:
            self.fails(NotUsable, {"word": "table", "at": -1}, beaten, TWO, ALL, table, None)
            self.fails(NotUsable, {"word": "table", "at": -1}, beaten, tree=TREE, table=table, rule=("yes", 1), bench=TWO)
        for tree in NO_TREES + ODD:
            self.fails(NotUsable, {"word": "tree", "at": -1}, beaten, TWO, ALL, F, tree)
            self.fails(NotUsable, {"word": "tree", "at": -1}, beaten, tree=tree, table=F, rule=("low", 0), bench=TWO)
            self.fails(NotUsable, {"word": "tree", "at": -1}, lets_wrong, TWO, ALL, tree, None)
            self.fails(NotUsable, {"word": "tree", "at": -1}, lets_wrong, thing=(LOW, F, F), tree=tree, rule=ALL, bench=TWO)


class Checker(Case):
    def test_example(self):
        self.fails(InvalidPaper, {"word": "fits", "at": -1}, lets_wrong, POINT, ("all", 0), ONCE, ((((), 0),), (0,), (1,)))

    def test_each_entry(self):
        for rule, thing, word in FAULTS + SEVERAL:
            self.fails(InvalidPaper, {"word": word, "at": -1}, lets_wrong, TWO, rule, TREE, thing)
            self.fails(InvalidPaper, {"word": word, "at": -1}, lets_wrong, thing=thing, tree=TREE, rule=rule, bench=TWO)

    def test_accepted(self):
        for rule, thing, many in ACCEPTED:
            self.same(lets_wrong(TWO, rule, TREE, thing), many)
        self.same(lets_wrong(TWO, ALL, ("is", F), ((), F, (0, 0, 0, 0))), 0)
        self.fails(InvalidPaper, {"word": "way", "at": -1}, lets_wrong, TWO, ALL, ("is", F), (LOW, F, (0, 0, 0, 0)))

    def test_odd_values(self):
        for thing in ODD:
            word = "log" if isinstance(thing, tuple) and len(thing) == 3 else "shape"
            self.fails(InvalidPaper, {"word": word, "at": -1}, lets_wrong, TWO, ALL, TREE, thing)
            word = "way" if thing == () else "log"
            self.fails(InvalidPaper, {"word": word, "at": -1}, lets_wrong, TWO, ALL, TREE, (thing, F, F))
            if thing is not None:
                self.fails(InvalidPaper, {"word": "told", "at": -1}, lets_wrong, TWO, ALL, TREE, (BARE, thing, F))
            self.fails(InvalidPaper, {"word": "table", "at": -1}, lets_wrong, TWO, ALL, TREE, (BARE, None, thing))


class Games(Case):
    def worlds(self):
        """The triples (world, word, e) of small benches for which whole_game is asked."""
        more = [
            ((ladder(11),), 0, 10, 1), ((), 0, 0, 9), ((), 0, 0, 5), ((PAIRS,), 0, 2, 1), ((flat(2), SWITCH), 0, 1, 1),
            ((ladder(5), SWITCH_DOWN), 5, 5, 1), ((SWITCH, SWITCH), 0, 1, 2), ((DIAL,), 0, 2, 3), ((flat(3),), 0, 0, 1),
        ]
        for world in TINY + [World(bench) for bench in SMALL[:30] + more if (bench[3] + 1) ** len(World(bench).points) <= 4096]:
            for word, e in world.rules((0, 1, 2)):
                if word in ("all", "yes") and len(world.tables) <= (12, 6, 3)[e]:
                    yield world, word, e

    def test_examples(self):
        games = whole_game(((SWITCH, SWITCH), 0, 1, 1), ("yes", 1)), whole_game(((DIAL,), 0, 2, 1), ("yes", 1))
        self.same(games, (4, 4))

    def test_against_another_game(self):
        many = 0
        for world, word, e in self.worlds():
            rule, bench = (word, e), world.bench
            number = whole_game(bench, rule)
            self.same(number, Game(world, rule).least_number(), bench, rule)
            self.same(number, whole_game(rule=rule, bench=bench))
            least, most = price_span(bench, rule)
            self.assertLessEqual(least, number)
            self.assertLessEqual(number, most)
            for table in world.tables:
                self.assertLessEqual(claim_price(bench, rule, table), number)
            if e > 0:
                self.assertLessEqual(whole_game(bench, (word, e - 1)), number)
            many += 1
        self.assertGreater(many, 80)

    def test_right_trees_are_no_shallower(self):
        for world, (word, e), tree in PLANS:
            if word in ("all", "yes") and len(world.tables) <= (12, 6, 3)[e]:
                self.same(is_right(world.bench, (word, e), tree), True)
                self.assertLessEqual(whole_game(world.bench, (word, e)), depth_of(world.bench, (word, e), tree))

    def test_no_slots(self):
        self.same([whole_game(NONE, ("all", e)) for e in range(3)], [1, 3, 5])
        self.same([whole_game(NONE, ("yes", e)) for e in range(3)], [1, 2, 3])

    def test_refusals(self):
        for rule in NO_RULES + (("each", 0), ("low", 0), ("each", 1), ("low", 2)):
            self.fails(NotUsable, {"word": "rule", "at": -1}, whole_game, TWO, rule)
            self.fails(NotUsable, {"word": "rule", "at": -1}, whole_game, rule=rule, bench=TWO)
        self.fails(NotUsable, {"word": "rule", "at": -1}, whole_game, ((), 0, 0, 2), ("yes", 0))


def answerer_asked(bench, rule, table, points):
    one = Answerer(bench, rule, table)
    for point in points:
        one.answer(point)
    return one


def state(one):
    return one.answers(), one.lacking(), one.pair(), len(one), list(one)


class Answerers(Case):
    def test_example(self):
        one = Answerer(TWO, ("yes", 1), (1, 1, 1, 1))
        told = one.answer((0, 0)), one.lacking(), one.pair()
        self.same(told, (0, ((0, 0),), (F, (1, 1, 1, 1))))

    def test_its_answers_and_back(self):
        rng = random.Random(101)
        for world in WORLDS:
            for rule in world.rules((0, 1, 2)):
                table = rng.choice(world.tables)
                points = tuple(rng.choices(world.points, k=12))
                one = Answerer(table=table, rule=rule, bench=world.bench)
                states = [state(one)]
                for many, point in enumerate(points):
                    grade = one.answer(point=point)
                    log = answers_to(world.bench, rule, table, points[:many + 1])
                    self.same((one.answers(), len(one), list(one), log[-1]), (log, many + 1, list(log), (point, grade)))
                    self.same(one.lacking(), tuple(world.points[at] for at in world.short(rule, table, log)))
                    self.same(one.pair(), two_left(world.bench, rule, table, points[:many + 1]))
                    states.append(state(one))
                for ahead in states[-2::-1]:
                    self.same(one.undo(), None)
                    self.same(state(one), ahead)
                self.fails(NothingToUndo, {"steps": 0}, one.undo)
                self.same(one == Answerer(world.bench, rule, table), True)

    def test_equal(self):
        some = [
            (TWO, ALL, F, ()), (TWO, ALL, F, ((0, 1),)), (TWO, ALL, F, ((1, 0),)), (TWO, ALL, (0, 0, 1, 1), ()),
            (TWO, ("all", 2), F, ()), (TWO, ("low", 1), F, ()), (TWO, ("each", 1), F, ((0, 1),)), (WARN, ALL, F, ()),
            (WARN, ALL, F, ((0, 1),)), (TWO, ALL, F, ((0, 1), (0, 1))), (MIX, ALL, (0,) * 6, ()),
        ]
        for one in some:
            for other in some:
                told = answerer_asked(*one) == answerer_asked(*other)
                self.same((told, answerer_asked(*one) != answerer_asked(*other)), (one == other, one != other))
            answerer = answerer_asked(*one)
            for thing in ODD + (one, answerer.answers(), list(answerer), one[0], F):
                self.same((answerer == thing, answerer != thing, thing == answerer), (False, True, False))

    def test_any_value_in_it(self):
        one = answerer_asked(TWO, ALL, F, ((0, 1), (0, 0), (0, 1)))
        self.same(one.answers(), (((0, 1), 1), ((0, 0), 0), ((0, 1), 1)))
        for thing in one.answers():
            self.same(thing in one, True)
        for thing in ODD + (((0, 1), True), ((0, True), 1), ((False, 0), 0), ((0, 1), 0), [(0, 1), 1], ((0, 1), 1, 1), one, F):
            self.same(thing in one, False)

    def test_what_was_told_is_not_touched(self):
        one = answerer_asked(TWO, ALL, F, ((0, 1),))
        told, steps = one.answers(), iter(one)
        one.answer((1, 1))
        self.same((told, list(steps)), ((((0, 1), 1),), [((0, 1), 1)]))

    def test_no_slots_one_rank_other_levels(self):
        one = answerer_asked(NONE, ("yes", 2), (1,), ((),))
        self.same(state(one), ((((), 0),), ((),), ((0,), (1,)), 1, [((), 0)]))
        down = answerer_asked(((SWITCH_DOWN,), 0, 1, 2), ("low", 1), (2, 1), ((0,),))
        self.same((down.answers(), down.lacking(), down.pair()), ((((0,), 1),), ((0,), (1,)), ((1, 1), (2, 1))))
        cut = answerer_asked(((DIAL, SWITCH), 1, 1, 1), ("all", 0), (0, 1), ((0, 1),))
        self.same((cut.lacking(), cut.pair()), (((1, 0),), ((0, 0), (0, 1))))

    def test_two_hundred_answers(self):
        one = answerer_asked(TWO, ("each", 9), F, ((0, 1), (1, 0)) * 100)
        self.same((len(one), one.lacking(), one.pair()), (200, ((0, 0),), (F, (1, 1, 1, 1))))

    def test_refusals(self):
        for rule in NO_RULES:
            self.fails(NotUsable, {"word": "rule", "at": -1}, Answerer, TWO, rule, None)
            self.fails(NotUsable, {"word": "rule", "at": -1}, Answerer, table=F, rule=rule, bench=TWO)
        self.fails(NotUsable, {"word": "rule", "at": -1}, Answerer, WARN, ("yes", 1), F)
        for table in NO_TABLES + ODD:
            self.fails(NotUsable, {"word": "table", "at": -1}, Answerer, TWO, ALL, table)
            self.fails(NotUsable, {"word": "table", "at": -1}, Answerer, table=table, rule=("yes", 0), bench=TWO)
        one = answerer_asked(TWO, ALL, F, ((0, 1),))
        here = state(one)
        for point in ODD + ((0, 2), (0, True), [0, 1], (0, 0, 0)):
            self.fails(NotUsable, {"word": "point", "at": -1}, one.answer, point)
            self.fails(NotUsable, {"word": "point", "at": -1}, one.answer, point=point)
        self.same(state(one), here)
