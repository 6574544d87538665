"""Points 43, 44 and 45: whose turn it is, the next test, and how many are left at most."""

from stubbornest.bounds import at_most
from stubbornest.counts import long_weight
from stubbornest.errors import NotUsable
from stubbornest.nexttests import next_test
from stubbornest.shapes import ladder
from stubbornest.turns import chain_due, stretch, wanted
from tests.cases import Case
from tests.samples import MIX, NONE, NO_NUMBERS, ODD, SWITCH, SWITCH_DOWN, TWO, WARN
from tests.test_knowns import NO_KNOWNS, distinct, some_knowns
from tests.worlds import WORLDS

WIDE = ((ladder(8),), 0, 7, 2)
BAD_NAMES = ODD + (((0, 0), (0, 2)), ((0, 0), (0, True)), [(0, 0), (0, 0)], ((0, 1), (0, 0)), ((0, 0), (1, 0)))


def met(world):
    """The knowns that the courses of all tables meet, each one once."""
    return sorted({known for table in world.tables for known in world.course(table)[1]})


class Turns(Case):
    def test_examples(self):
        self.same(wanted(MIX, (((0, 1), 1),)), (((0, 0), (0, 0)), 1))
        self.same(stretch(MIX, (((0, 1), 1),), ((0, 0), (0, 0)), 1), ((0, 0), (1, 0), (2, 0)))
        self.fails(NotUsable, {"word": "grade", "at": -1}, stretch, TWO, (), ((0, 0), (0, 1)), 0)

    def test_at_each_known_of_a_course(self):
        for world in WORLDS:
            for known in met(world):
                pair = world.wanted(known)
                self.same(wanted(world.bench, known), pair)
                self.same(chain_due(world.bench, known), None if pair is None else pair[0])

    def test_at_other_knowns(self):
        for world in WORLDS:
            for known in list(some_knowns(world))[::5]:
                known = distinct(known)
                self.same(wanted(known=known, bench=world.bench), world.wanted(known))
                self.same(next_test(known=known, bench=world.bench), world.next_test(known))
                self.same(at_most(known=known, bench=world.bench), world.at_most(known))

    def test_stretches(self):
        for world in WORLDS:
            for known in list(some_knowns(world))[::7]:
                known = distinct(known)
                for name, members in world.names.items():
                    for grade in range(1, world.top + 1):
                        told = stretch(world.bench, known, name, grade)
                        self.same(told, world.stretch(known, name, grade))
                        # They are successive members.
                        at = members.index(told[0]) if told else 0
                        self.same(told, members[at:at + len(told)])

    def test_no_long_stretch_on_the_chain_that_is_due(self):
        for world in WORLDS:
            for known in met(world):
                name = chain_due(world.bench, known)
                if name is not None:
                    for grade in range(1, world.top + 1):
                        self.assertLessEqual(len(stretch(world.bench, known, name, grade)), world.run + 2)

    def test_no_grade_is_numbered_in_another_sequence(self):
        down = ((SWITCH_DOWN,), 0, 1, 2)
        self.same(stretch(grade=2, name=((0, 0),), known=(), bench=down), ((1,), (0,)))
        self.same(wanted(down, (((0,), 1),)), (((0, 0),), 1))
        self.same(stretch(down, (((0,), 1),), ((0, 0),), 2), ())
        self.same(wanted(down, (((1,), 1),)), (((0, 0),), 2))
        self.same(next_test(down, (((1,), 1),)), (0,))

    def test_the_least_grade_comes_first(self):
        # 1 is open below, 2 everywhere.
        self.same(wanted(WIDE, (((3,), 1),)), (((0, 0),), 1))
        self.same(next_test(WIDE, (((3,), 1),)), (1,))
        self.same(next_test(WIDE, (((0,), 1),)), (4,))
        self.same(wanted(WIDE, (((0,), 1),)), (((0, 0),), 2))

    def test_chains_without_points(self):
        cut = ((SWITCH, SWITCH), 0, 0, 1)
        self.same(stretch(cut, (), ((0, 0), (0, 1)), 1), ())
        self.same(stretch(cut, (), ((0, 0), (0, 0)), 1), ((0, 0),))
        self.same(chain_due(cut, ()), ((0, 0), (0, 0)))

    def test_refusals(self):
        for known in NO_KNOWNS:
            for call in (chain_due, wanted, next_test, at_most):
                self.fails(NotUsable, {"word": "known", "at": -1}, call, WARN, known)
                self.fails(NotUsable, {"word": "known", "at": -1}, call, known=known, bench=WARN)
            self.fails(NotUsable, {"word": "known", "at": -1}, stretch, WARN, known, ((0, 0), (0, 0)), 1)
            self.fails(NotUsable, {"word": "known", "at": -1}, stretch, WARN, known, None, None)
        for name in BAD_NAMES:
            self.fails(NotUsable, {"word": "name", "at": -1}, stretch, WARN, (), name, 1)
            self.fails(NotUsable, {"word": "name", "at": -1}, stretch, WARN, (), name, None)
        for grade in NO_NUMBERS + (0, 3, 10 ** 60 - 1):
            self.fails(NotUsable, {"word": "grade", "at": -1}, stretch, WARN, (), ((0, 0), (0, 1)), grade)
            self.fails(
                NotUsable, {"word": "grade", "at": -1}, stretch, grade=grade, name=((0, 0), (0, 1)), known=(), bench=WARN
            )


class NextTests(Case):
    def test_examples(self):
        self.same(next_test(MIX, ()), (1, 1))
        self.same(next_test(MIX, (((0, 1), 1),)), (1, 0))

    def test_at_each_known_of_a_course(self):
        for world in WORLDS:
            for known in met(world):
                point = next_test(world.bench, known)
                self.same(point, world.next_test(known))
                if point is None:
                    self.same(len(world.like(known)), 1)
                else:
                    stretches = stretch(world.bench, known, *wanted(world.bench, known))
                    self.same(point, stretches[len(stretches) // 2])

    def test_no_slots(self):
        self.same(next_test(NONE, ()), ())
        self.same(next_test(NONE, (((), 1),)), None)
        self.same(wanted(NONE, ()), ((), 1))
        self.same(wanted(((), 0, 0, 3), ()), ((), 1))
        self.same((at_most(NONE, ()), at_most(((), 0, 0, 3), ()), at_most(NONE, (((), 0),))), (1, 1, 0))


class Bounds(Case):
    def test_examples(self):
        self.same((at_most(MIX, ()), at_most(MIX, (((0, 1), 1),))), (4, 2))

    def test_with_nothing_known(self):
        for world in WORLDS:
            self.same(at_most(world.bench, ()), world.at_most(()))
            self.same(at_most(world.bench, ()), long_weight(world.bench))
            self.same(at_most(world.bench, ()), world.long_weight)

    def test_it_falls_with_each_test_of_a_course(self):
        for world in WORLDS:
            for table in world.tables:
                counts = [at_most(world.bench, known) for known in world.course(table)[1]]
                self.same([one > other for one, other in zip(counts, counts[1:])], [True] * (len(counts) - 1))
                self.same([count == 0 for count in counts], [False] * (len(counts) - 1) + [True])

    def test_at_each_known_of_a_course(self):
        for world in WORLDS:
            for known in met(world):
                self.same(at_most(world.bench, known), world.at_most(known))

    def test_it_never_grows_with_one_more_answer(self):
        for world in WORLDS:
            for known in list(some_knowns(world))[::9]:
                known = distinct(known)
                count = at_most(world.bench, known)
                self.same(count == 0, not world.unsettled(known))
                asked = next_test(world.bench, known)
                for table in world.like(known)[::6]:
                    for point, grade in zip(world.points, table):
                        more = at_most(world.bench, distinct(known + ((point, grade),)))
                        self.assertLessEqual(more, count - 1 if point == asked else count)
