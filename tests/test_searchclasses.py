"""Points 50, 51 and 52: open counts, and live searches."""

import random

from stubbornest.bounds import at_most
from stubbornest.errors import NothingToUndo, NotUsable
from stubbornest.knowns import ceiling_of, floor_of
from stubbornest.nexttests import next_test
from stubbornest.openings import open_counts
from stubbornest.plancourses import plan_course
from stubbornest.searchclasses import Search
from tests.cases import Case
from tests.samples import DIAL, NONE, NO_NUMBERS, ODD, SWITCH, SWITCH_DOWN, TWO, WARN
from tests.test_knowns import NO_KNOWNS, distinct, some_knowns
from tests.test_turns import BAD_NAMES
from tests.worlds import WORLDS


class Openings(Case):
    def test_examples(self):
        self.same(open_counts(WARN, (((0, 1), 1),), ((0, 0), (0, 0))), (2, 2))

    def test_over_the_points_of_the_chain(self):
        for world in WORLDS:
            for known in list(some_knowns(world))[::5]:
                known = distinct(known)
                floor, ceiling = world.floor(known), world.ceiling(known)
                for name in world.names:
                    counts = []
                    for grade in range(1, world.top + 1):
                        on = [world.at[point] for point in world.on(name)]
                        counts.append(len([at for at in on if floor[at] < grade <= ceiling[at]]))
                    self.same(open_counts(name=name, known=known, bench=world.bench), tuple(counts))

    def test_refusals(self):
        for known in NO_KNOWNS:
            self.fails(NotUsable, {"word": "known", "at": -1}, open_counts, WARN, known, ((0, 0), (0, 0)))
            self.fails(NotUsable, {"word": "known", "at": -1}, open_counts, WARN, known, None)
        for name in BAD_NAMES:
            self.fails(NotUsable, {"word": "name", "at": -1}, open_counts, WARN, (), name)
            self.fails(NotUsable, {"word": "name", "at": -1}, open_counts, name=name, known=(), bench=WARN)


class Searches(Case):
    def state(self, search):
        return (
            search.told(), search.known(), search.next(), search.left(), search.floor(), search.ceiling(), search.found(),
        )

    def test_example(self):
        search = Search(TWO)
        self.same(search.tell((1, 0), 1), None)
        self.same((search.next(), search.left(), search.ceiling()), ((0, 1), 2, (1, 1, 1, 1)))
        self.fails(NotUsable, {"word": "point", "at": -1}, search.tell, (1, 1), 1)

    def test_it_asks_the_course_of_the_table_that_answers(self):
        for world in WORLDS:
            for table in world.tables[::max(1, len(world.tables) // 6)]:
                search = Search(bench=world.bench)
                states = [self.state(search)]
                while search.next() is not None:
                    self.same(search.found(), None)
                    point = search.next()
                    self.same(search.tell(grade=table[world.at[point]], point=point), None)
                    states.append(self.state(search))
                    known = search.known()
                    self.same(known, tuple(sorted(search.told())))
                    self.same(search.floor(), floor_of(world.bench, known))
                    self.same(search.ceiling(), ceiling_of(world.bench, known))
                    self.same(search.left(), at_most(world.bench, known))
                    self.same(search.next(), next_test(world.bench, known))
                self.same(search.found(), table)
                self.same(search.told(), plan_course(world.bench, table))
                # Step by step back to the beginning.
                for state in states[-2::-1]:
                    self.same(search.undo(), None)
                    self.same(self.state(search), state)
                self.fails(NothingToUndo, {"steps": 0}, search.undo)
                self.same(search == Search(world.bench), True)

    def test_any_points_and_grades(self):
        rng = random.Random(52)
        for world in WORLDS:
            search = Search(world.bench)
            for _ in range(20):
                known = search.known()
                floor, ceiling = world.floor(known), world.ceiling(known)
                point, grade = rng.choice(world.points), rng.randint(-1, world.top + 1)
                low, high = floor[world.at[point]], ceiling[world.at[point]]
                before = self.state(search)
                if low == high:
                    self.fails(NotUsable, {"word": "point", "at": -1}, search.tell, point, grade)
                    self.same(self.state(search), before)
                elif not low <= grade <= high:
                    self.fails(NotUsable, {"word": "grade", "at": -1}, search.tell, point, grade)
                    self.same(self.state(search), before)
                else:
                    search.tell(point, grade)
                    self.same(search.told(), before[0] + ((point, grade),))
                    self.same(search.known(), tuple(sorted(search.told())))
                if rng.random() < 0.2:
                    told = search.told()
                    if told:
                        search.undo()
                        self.same(search.told(), told[:-1])
                    else:
                        self.fails(NothingToUndo, {"steps": 0}, search.undo)

    def test_equal(self):
        one, other = Search(TWO), Search(TWO)
        self.same((one == other, one != other), (True, False))
        one.tell((0, 1), 1)
        self.same((one == other, one != other), (False, True))
        other.tell((0, 1), 1)
        self.same(one == other, True)
        one.tell((1, 0), 0)
        other.tell((0, 0), 0)
        self.same(one == other, False)
        # Equal knowns, told in another sequence.
        one, other = Search(TWO), Search(TWO)
        one.tell((0, 1), 1)
        one.tell((1, 0), 1)
        other.tell((1, 0), 1)
        other.tell((0, 1), 1)
        self.same(one.known(), other.known())
        self.same(one == other, False)
        self.same(Search(TWO) == Search(WARN), False)
        for thing in ODD + (TWO, (), one.told()):
            self.same((one == thing, one != thing, thing == one), (False, True, False))

    def test_undone_answers_do_not_count(self):
        one, other = Search(WARN), Search(WARN)
        one.tell((0, 1), 1)
        one.undo()
        self.same(one == other, True)
        one.tell((0, 1), 2)
        self.same(one.told(), (((0, 1), 2),))
        self.fails(NotUsable, {"word": "point", "at": -1}, one.tell, (1, 1), 2)
        self.same(one.known(), (((0, 1), 2),))

    def test_no_slots_one_rank_other_levels(self):
        search = Search(NONE)
        self.same(self.state(search), ((), (), (), 1, (0,), (1,), None))
        search.tell((), 1)
        self.same(self.state(search), ((((), 1),), (((), 1),), None, 0, (1,), (1,), (1,)))
        down = Search(((SWITCH_DOWN,), 0, 1, 2))
        down.tell((1,), 1)
        self.same((down.floor(), down.ceiling(), down.next()), ((1, 1), (2, 1), (0,)))
        self.fails(NotUsable, {"word": "grade", "at": -1}, down.tell, (0,), 0)
        one = Search(((DIAL, SWITCH), 1, 1, 1))
        self.fails(NotUsable, {"word": "point", "at": -1}, one.tell, (0, 0), 0)
        one.tell((1, 0), 0)
        one.tell((0, 1), 1)
        self.same(one.found(), (1, 0))

    def test_refusals(self):
        search = Search(WARN)
        for point in ODD + ((0, 2), (True, 0), (0, False), [0, 1], "01"):
            self.fails(NotUsable, {"word": "point", "at": -1}, search.tell, point, 1)
            self.fails(NotUsable, {"word": "point", "at": -1}, search.tell, point, None)
            self.fails(NotUsable, {"word": "point", "at": -1}, search.tell, grade=1, point=point)
        for grade in NO_NUMBERS + (3, 10 ** 60 - 1):
            self.fails(NotUsable, {"word": "grade", "at": -1}, search.tell, (0, 1), grade)
            self.fails(NotUsable, {"word": "grade", "at": -1}, search.tell, grade=grade, point=(0, 1))
        self.same(search == Search(WARN), True)
