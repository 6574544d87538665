"""Points 77 and 78: the plan of follow as a tree; how deep a tree is, and whether it is right."""

import random

from stubbornest.claims import claim_price
from stubbornest.errors import NotUsable
from stubbornest.following import follow
from stubbornest.plantrees import plan_tree
from stubbornest.shapes import flat, ladder
from stubbornest.treejudging import depth_of, first_wrong, is_right
from stubbornest.treekinds import is_tree
from stubbornest.trees import end_by
from stubbornest.worsts import worst_told
from tests import trees
from tests.cases import Case
from tests.samples import DIAL, DIAL_MIXED, NONE, ODD, SWITCH, SWITCH_DOWN, TWO, WARN
from tests.test_prices import NO_RULES
from tests.test_trees import NO_TREES
from tests.worlds import TINY, WORLDS, World

POINT = ((), 0, 0, 1)
ONCE = ("ask", (), (("is", (0,)), ("is", (1,))))
CALLS = depth_of, first_wrong, is_right

# Benches whose plans are trees within the limits, under some rules.
BENCHES = [world.bench for world in TINY] + [
    ((), 0, 0, 2), ((DIAL_MIXED, SWITCH_DOWN), 1, 1, 1), ((flat(3),), 0, 0, 1), ((ladder(9),), 0, 8, 1), ((SWITCH,), 0, 1, 3),
    ((DIAL, SWITCH), 2, 3, 2),
]


def plans():
    """Triples (world, rule, tree) of the plans within the limits."""
    for world in map(World, BENCHES):
        for rule in world.rules((0, 1, 2)):
            if worst_told(world.bench, rule) <= 9:
                tree = plan_tree(world.bench, rule)
                if len(list(trees.pairs(tree))) <= 300 and trees.depth(tree) <= 16:
                    yield world, rule, tree


PLANS = list(plans())


class Plans(Case):
    def test_example(self):
        tree = plan_tree(((SWITCH,), 0, 1, 2), ("all", 0))
        self.same(tree[2][:2], (("is", (0, 0)), ("ask", (0,), (("is", (0, 1)), ("is", (1, 1)), None))))

    def test_there_are_many(self):
        self.assertGreater(len(PLANS), 60)
        for word in ("all", "each", "low", "yes"):
            for e in (0, 1, 2):
                self.same(len([1 for _, rule, _ in PLANS if rule == (word, e)]) > 1, True, word, e)

    def test_way_by_way(self):
        for world, rule, tree in PLANS:
            self.same(plan_tree(rule=rule, bench=world.bench), tree)
            self.same(is_tree(world.bench, tree), True)
            self.check(world, rule, tree, ())

    def check(self, world, rule, tree, grades):
        """Holds the tree behind these grades against follow."""
        if tree is None:
            self.fails(NotUsable, {"word": "grades", "at": len(grades) - 1}, follow, world.bench, rule, grades)
            return
        known, following = follow(world.bench, rule, grades)[1::2]
        if tree[0] == "is":
            self.same((following, tree), (None, ("is", world.floor(known))))
            return
        self.same(tree[:2], ("ask", following))
        for grade, branch in enumerate(tree[2]):
            self.check(world, rule, branch, grades + (grade,))

    def test_ends_and_nones(self):
        for world, rule, tree in PLANS:
            for log, told in trees.pairs(tree):
                self.same(world.fitting(rule, log), [] if told is None else [told])
            self.same((is_right(world.bench, rule, tree), first_wrong(world.bench, rule, tree)), (True, None))
            self.same(depth_of(world.bench, rule, tree), worst_told(world.bench, rule))
            for table in world.tables:
                self.same(end_by(world.bench, tree, table)[1], table)
                self.assertLessEqual(claim_price(world.bench, rule, table), depth_of(world.bench, rule, tree))

    def test_refusals(self):
        for rule in NO_RULES:
            self.fails(NotUsable, {"word": "rule", "at": -1}, plan_tree, TWO, rule)
            self.fails(NotUsable, {"word": "rule", "at": -1}, plan_tree, rule=rule, bench=TWO)
        self.fails(NotUsable, {"word": "rule", "at": -1}, plan_tree, WARN, ("yes", 0))


class Judging(Case):
    def check(self, world, rule, tree):
        bench = world.bench
        fitting = {log: world.fitting(rule, log) for log, _ in trees.pairs(tree)}
        ends = [(log, told) for log, told in trees.pairs(tree) if told is not None]
        depth = max([len(log) for log, _ in ends if fitting[log]], default=-1)
        wrong = [(log, told) for log, told in trees.pairs(tree) if [one for one in fitting[log] if one != told]]
        self.same(depth_of(bench, rule, tree), depth)
        self.same(depth_of(tree=tree, rule=rule, bench=bench), depth)
        self.same(is_right(bench, rule, tree), not wrong)
        self.same(is_right(tree=tree, rule=rule, bench=bench), not wrong)
        found = first_wrong(bench, rule, tree)
        self.same(found, first_wrong(tree=tree, rule=rule, bench=bench))
        if not wrong:
            self.same(found, None)
            return True
        self.same((found.__class__, len(found), found[:2]), (tuple, 3, wrong[0]))
        self.same((found[2] in fitting[found[0]], found[2] != found[1]), (True, True))
        return False

    def test_examples(self):
        self.same((depth_of(POINT, ("all", 0), ONCE), first_wrong(POINT, ("all", 1), ONCE)), (1, ((((), 0),), (0,), (1,))))
        self.same(depth_of(POINT, ("all", 0), ("ask", (), (None, None))), -1)

    def test_random_trees(self):
        rng = random.Random(96)
        for world in WORLDS:
            for share in (0, 0.2, 0.8):
                tree = trees.some_tree(rng, world, 3 if world.top < 3 else 2, share)
                for rule in world.rules((0, 1)):
                    self.check(world, rule, tree)

    def test_trees_bent_at_one_place(self):
        rng = random.Random(97)
        right = 0
        for world, rule, tree in PLANS:
            for _ in range(3):
                place = tuple(grade for _, grade in rng.choice(list(trees.pairs(tree)))[0])
                place = place[:rng.randint(0, len(place))]
                part = rng.choice((None, ("is", rng.choice(world.tables)), trees.some_tree(rng, world, 2)))
                if place or part is not None:
                    right += self.check(world, rule, trees.bent(tree, place, part))
        self.assertGreater(right, 10)

    def test_other_rules(self):
        # What is right stays so, and nothing becomes deeper, if less may be wrong, or if another word replaces "each".
        rng = random.Random(98)
        for world, (word, e), tree in PLANS:
            for one in (tree, trees.some_tree(rng, world, 3, 0.2)):
                others = [(word, less) for less in range(e)]
                if word == "each":
                    others += [(other, e) for other, _ in world.rules((0,))]
                for rule in others:
                    self.assertLessEqual(depth_of(world.bench, rule, one), depth_of(world.bench, (word, e), one))
                    if is_right(world.bench, (word, e), one):
                        self.same(is_right(world.bench, rule, one), True)

    def test_nothing_asked(self):
        self.same(first_wrong(TWO, ("all", 0), ("is", (0, 0, 0, 1)))[:2], ((), (0, 0, 0, 1)))
        self.same(depth_of(TWO, ("all", 0), ("is", (0, 0, 0, 1))), 0)

    def test_no_slots_one_rank_other_levels(self):
        twice = ("ask", (), (("ask", (), (("is", (0,)), ("is", (1,)))), ("is", (1,))))
        self.same([is_right(NONE, (word, 1), twice) for word in ("all", "each", "low", "yes")], [False, False, True, True])
        self.same([depth_of(NONE, (word, 1), twice) for word in ("all", "each", "low", "yes")], [2, 2, 2, 2])
        down = ((SWITCH_DOWN,), 0, 1, 1)
        tree = ("ask", (1,), (("ask", (0,), (("is", (0, 0)), ("is", (1, 0)))), ("is", (1, 1))))
        self.same((is_right(down, ("all", 0), tree), is_right(down, ("all", 1), tree)), (True, False))
        cut = ((DIAL, SWITCH), 1, 1, 2)
        self.same(first_wrong(cut, ("low", 0), ("ask", (0, 1), (None, None, None)))[:2], ((((0, 1), 0),), None))

    def test_sixteen_askings(self):
        bench = ((ladder(64),), 0, 63, 1)
        tree = ("is", (1,) * 64)
        for number in range(16):
            tree = ("ask", (number,), (tree, None))
        log = tuple(((number,), 0) for number in range(15, -1, -1))
        self.same(depth_of(bench, ("all", 0), tree), 16)
        found = first_wrong(bench, ("all", 0), tree)
        self.same((found[:2], found[2] != (1,) * 64, found[2][:16]), ((log, (1,) * 64), True, (0,) * 16))

    def test_refusals(self):
        for call in CALLS:
            for rule in NO_RULES:
                self.fails(NotUsable, {"word": "rule", "at": -1}, call, TWO, rule, None)
                self.fails(NotUsable, {"word": "rule", "at": -1}, call, tree=("is", (0,) * 4), rule=rule, bench=TWO)
            self.fails(NotUsable, {"word": "rule", "at": -1}, call, WARN, ("yes", 1), ("is", (0,) * 4))
            for tree in NO_TREES + ODD:
                self.fails(NotUsable, {"word": "tree", "at": -1}, call, TWO, ("all", 1), tree)
                self.fails(NotUsable, {"word": "tree", "at": -1}, call, tree=tree, rule=("yes", 0), bench=TWO)
