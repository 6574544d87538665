"""Points 75 and 76: what is a tree, its ends, and the way of a table."""

import random

from stubbornest.errors import NotUsable
from stubbornest.treekinds import is_tree
from stubbornest.trees import end_by, ends_of
from tests import trees
from tests.cases import Case
from tests.samples import DIAL, NONE, ODD, SWITCH, SWITCH_DOWN, TWO, WARN
from tests.test_tables import NO_TABLES
from tests.worlds import WORLDS

F = (0, 0, 0, 1)
END = ("is", F)
TREE = ("ask", (0, 1), (END, None))

# Values that are no tree of TWO; most of them are none as a branch, either.
NO_TREES = (
    ("is", F, None), ("is",), ["is", F], ("Is", F), ("ask", F), ("is", None), ("is", list(F)), ("is", (0, 0, 0, True)), (F, "is"),
    ("is", (1, 0, 0, 0)), ("is", (0, 0, 0, 2)), ("is", (0, 0, 1)), (("is", F),), ("is", "0001"), (None, F), (True, F), ((), F),
    ("ask", (0, 1)), ("ask", (0, 1), (END, END), ()), ["ask", (0, 1), (END, END)], ("Ask", (0, 1), (END, END)),
    ("ask", (0, 1), [END, END]), ("ask", (0, 1), (END,)), ("ask", (0, 1), (END, END, END)), ("ask", (0, 1), ()),
    ("ask", (0, 2), (END, END)), ("ask", (0, True), (END, END)), ("ask", [0, 1], (END, END)), ("ask", (0, 1), None),
    ("ask", (0, 1), (END, False)), ("ask", (0, 1), (END, ())), ("ask", (0, 1), (END, "")), ("is", (0, 1), (END, END)),
    ("ask", None, (END, END)), ("ask", (0,), (END, END)), ("ask", (0, 1), "ab"), ("ask", (0, 1), {0: END, 1: END}),
    ("ask", (0, 1), (END, list(END))), ("ask", (0, 1), (("is", (1, 0, 0, 0)), END)),
)


class Kinds(Case):
    def test_trees(self):
        deep = END
        for _ in range(16):
            deep = ("ask", (1, 0), (None, deep))
        for thing in (END, TREE, ("ask", (1, 1), (None, None)), ("ask", (1, 1), (TREE, TREE)), deep, ("is", (1, 1, 1, 1))):
            self.same(is_tree(TWO, thing), True)
            self.same(is_tree(thing=thing, bench=TWO), True)
        # An end may come behind any asking, the same point may be asked again.
        self.same(is_tree(TWO, ("ask", (0, 1), (END, ("ask", (0, 1), (END, END))))), True)

    def test_no_trees(self):
        for thing in NO_TREES + ODD:
            self.same(is_tree(TWO, thing), False, thing)
            self.same(is_tree(thing=thing, bench=TWO), False, thing)
            if thing is not None:
                self.same(is_tree(TWO, ("ask", (0, 1), (END, thing))), False, thing)
                self.same(is_tree(TWO, ("ask", (0, 1), (("ask", (1, 1), (thing, None)), None))), False, thing)

    def test_other_benches(self):
        self.same((is_tree(WARN, TREE), is_tree(WARN, ("ask", (0, 1), (END, None, END))), is_tree(WARN, END)), (False, True, True))
        self.same([is_tree(NONE, ("ask", point, (("is", (0,)), None))) for point in ((), (0,))], [True, False])
        cut = ((DIAL, SWITCH), 1, 1, 2)
        self.same(is_tree(cut, ("ask", (0, 1), (None, ("is", (2, 0)), None))), True)
        self.same(is_tree(cut, ("ask", (0, 0), (None, ("is", (2, 0)), None))), False)
        down = ((SWITCH_DOWN,), 0, 1, 1)
        self.same([is_tree(down, ("is", table)) for table in ((0, 1), (1, 0))], [False, True])

    def test_random_trees(self):
        rng = random.Random(94)
        for world in WORLDS:
            for _ in range(5):
                tree = trees.some_tree(rng, world, 3)
                self.same(is_tree(world.bench, tree), True)

    def test_three_hundred_ends(self):
        bench = ((SWITCH,) * 6, 0, 6, 1)
        tree = ("is", (0,) * 64)
        for _ in range(8):
            tree = ("ask", (0,) * 6, (tree, tree))
        self.same((is_tree(bench, tree), len(list(ends_of(bench, tree)))), (True, 256))


class Ends(Case):
    def test_examples(self):
        self.same(list(ends_of(TWO, TREE)), [((((0, 1), 0),), F), ((((0, 1), 1),), None)])
        self.same(end_by(TWO, TREE, (1, 1, 1, 1)), ((((0, 1), 1),), None))

    def test_all_ways(self):
        rng = random.Random(95)
        for world in WORLDS:
            for share in (0, 0.3, 0.7):
                tree = trees.some_tree(rng, world, 3, share)
                wanted = list(trees.pairs(tree))
                self.same(list(ends_of(world.bench, tree)), wanted)
                self.same(list(ends_of(tree=tree, bench=world.bench)), wanted)
                for table in world.tables[::max(1, len(world.tables) // 20)]:
                    pair = trees.way(tree, lambda log, point: table[world.at[point]])
                    self.same(end_by(world.bench, tree, table), pair)
                    self.same(end_by(table=table, tree=tree, bench=world.bench), pair)
                    self.same(pair in wanted, True)

    def test_an_end_alone(self):
        self.same(list(ends_of(TWO, END)), [((), F)])
        self.same(end_by(TWO, END, (1, 1, 1, 1)), ((), F))

    def test_sixteen_askings(self):
        deep = END
        for number in range(16):
            deep = ("ask", (1, number % 2), (None, deep))
        log = tuple(((1, number % 2), 1) for number in range(15, -1, -1))
        self.same(end_by(TWO, deep, (1, 1, 1, 1)), (log, F))
        rows = list(ends_of(TWO, deep))
        self.same((len(rows), rows[0], rows[-1]), (17, ((((1, 1), 0),), None), (log, F)))

    def test_no_slots_and_more_grades(self):
        bench = ((), 0, 0, 2)
        tree = ("ask", (), (("is", (1,)), None, ("ask", (), (None, None, ("is", (2,))))))
        wanted = [((((), 0),), (1,)), ((((), 1),), None)]
        wanted += [((((), 2), ((), 0)), None), ((((), 2), ((), 1)), None), ((((), 2), ((), 2)), (2,))]
        self.same(list(ends_of(bench, tree)), wanted)
        self.same([end_by(bench, tree, (grade,)) for grade in range(3)], [wanted[0], wanted[1], wanted[4]])

    def test_errors_come_with_the_first_result(self):
        generator = ends_of(TWO, None)
        self.fails(NotUsable, {"word": "tree", "at": -1}, next, generator)

    def test_refusals(self):
        for tree in NO_TREES + ODD:
            self.fails(NotUsable, {"word": "tree", "at": -1}, lambda: list(ends_of(TWO, tree)))
            self.fails(NotUsable, {"word": "tree", "at": -1}, lambda: list(ends_of(tree=tree, bench=TWO)))
            self.fails(NotUsable, {"word": "tree", "at": -1}, end_by, TWO, tree, None)
            self.fails(NotUsable, {"word": "tree", "at": -1}, end_by, table=F, tree=tree, bench=TWO)
        for table in NO_TABLES + ODD:
            self.fails(NotUsable, {"word": "table", "at": -1}, end_by, TWO, TREE, table)
            self.fails(NotUsable, {"word": "table", "at": -1}, end_by, table=table, tree=END, bench=TWO)
