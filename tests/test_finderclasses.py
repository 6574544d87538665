"""Points 61 and 62: finders, which lead the tests of follow one by one."""

import random

from stubbornest.errors import NothingToUndo, NotUsable
from stubbornest.finderclasses import Finder
from stubbornest.following import follow
from stubbornest.mostcosts import most_for
from stubbornest.telling import told_grades
from tests.cases import Case
from tests.samples import DIAL, MIX, NONE, NO_NUMBERS, ODD, SWITCH, SWITCH_DOWN, TWO, WARN
from tests.test_prices import NO_RULES
from tests.worlds import TINY, WORLDS

ALL = ("all", 1)

# Ten points, each of which is asked at most nineteen times.
LONG_RULE = ((DIAL, DIAL, SWITCH), 2, 3, 1), ("each", 9)


def finder_told(bench, rule, grades):
    finder = Finder(bench, rule)
    for grade in grades:
        finder.tell(grade)
    return finder


def state(finder):
    """All that a Finder tells of itself."""
    return (
        finder.next(), finder.told(), finder.known(), finder.still(), finder.found(), finder.most(), len(finder),
        list(finder),
    )


class Finders(Case):
    def state_by_follow(self, world, rule, grades):
        points, known, still, following = follow(world.bench, rule, grades)
        log = tuple(zip(points, grades))
        found = world.floor(known) if following is None else None
        most = most_for(world.bench, rule, known, still)
        return following, log, known, still, found, most, len(log), list(log)

    def test_example(self):
        finder = Finder(TWO, ("yes", 1))
        self.same(finder.tell(1), None)
        self.same((finder.next(), finder.known(), finder.most()), ((1, 0), (((0, 1), 1),), 3))

    def test_all_sequences_of_grades(self):
        for world in TINY:
            if len(world.points) <= 4:
                for rule in world.rules((0, 1)):
                    self.go_through(world, rule, Finder(world.bench, rule), ())

    def go_through(self, world, rule, finder, grades):
        """Each further grade is told and undone."""
        here = state(finder)
        self.same(here, self.state_by_follow(world, rule, grades))
        for grade in range(world.top + 1):
            if isinstance(world.follow(rule, grades + (grade,)), int):
                self.fails(NotUsable, {"word": "grade", "at": -1}, finder.tell, grade)
            else:
                self.same(finder.tell(grade=grade), None)
                self.go_through(world, rule, finder, grades + (grade,))
                self.same(finder.undo(), None)
            self.same(state(finder), here)

    def test_it_asks_what_follow_asks_and_goes_back(self):
        rng = random.Random(61)
        for world in WORLDS:
            for rule in world.rules((0, 2)):
                table = rng.choice(world.tables)
                grades = told_grades(world.bench, rule, table, ())
                finder = Finder(rule=rule, bench=world.bench)
                states = [state(finder)]
                for number, grade in enumerate(grades[:40]):
                    self.same(finder.next(), follow(world.bench, rule, grades[:number])[3])
                    finder.tell(grade)
                    states.append(state(finder))
                self.same(states[-1], self.state_by_follow(world, rule, grades[:40]))
                if len(grades) <= 40:
                    self.same((finder.next(), finder.found(), finder.most()), (None, table, 0))
                for ahead in states[-2::-1]:
                    finder.undo()
                    self.same(state(finder), ahead)
                self.fails(NothingToUndo, {"steps": 0}, finder.undo)
                self.same(finder == Finder(world.bench, rule), True)

    def test_answers_at_a_point_that_is_not_settled(self):
        finder = finder_told(TWO, ("all", 2), (1, 0))
        self.same((finder.next(), finder.known(), finder.still(), finder.most()), ((0, 1), (), 2, 11))
        finder.tell(1)
        self.same((finder.known(), finder.still(), finder.most()), ((), 2, 11))
        finder.tell(1)
        self.same((finder.known(), finder.still(), finder.most()), ((((0, 1), 1),), 1, 5))

    def test_equal(self):
        some = [
            (TWO, ALL, ()), (TWO, ALL, (1,)), (TWO, ALL, (0,)), (TWO, ALL, (1, 1)), (TWO, ("low", 1), (1,)),
            (TWO, ("all", 2), (1,)), (TWO, ("each", 1), (1,)), (WARN, ALL, (1,)), (WARN, ALL, ()), (MIX, ALL, ()),
            (MIX, ALL, (1,)), (((SWITCH, SWITCH), 0, 1, 1), ALL, ()), (TWO, ("yes", 1), ()),
        ]
        for one in some:
            for other in some:
                told = finder_told(*one) == finder_told(*other)
                self.same((told, finder_told(*one) != finder_told(*other)), (one == other, one != other))
            finder = finder_told(*one)
            for thing in ODD + (one, finder.told(), list(finder), one[0]):
                self.same((finder == thing, finder != thing, thing == finder), (False, True, False))

    def test_undone_answers_do_not_count(self):
        one, other = finder_told(TWO, ALL, (0, 1)), finder_told(TWO, ALL, (1, 1))
        one.undo()
        one.undo()
        one.tell(1)
        one.tell(1)
        self.same(one == other, True)
        self.same(state(one), state(other))

    def test_any_value_in_it(self):
        finder = finder_told(TWO, ALL, (1, 0, 1, 1))
        self.same(finder.told(), (((0, 1), 1), ((0, 1), 0), ((0, 1), 1), ((1, 0), 1)))
        for thing in finder.told():
            self.same(thing in finder, True)
        for thing in ODD + (
            ((0, 1), True), ((0, True), 1), ((False, 1), 0), ((1, 0), 0), [(0, 1), 1], ((0, 1), 1, 1), ((0, 0), 0), TWO, (0, 1),
            ((0, 1), 2), finder,
        ):
            self.same(thing in finder, False)

    def test_what_was_told_is_not_touched(self):
        finder = finder_told(TWO, ALL, (1,))
        told, steps = finder.told(), iter(finder)
        finder.tell(1)
        self.same((told, list(steps)), ((((0, 1), 1),), [((0, 1), 1)]))
        finder.undo()
        finder.undo()
        self.same((told, finder.told(), list(finder), len(finder)), ((((0, 1), 1),), (), [], 0))

    def test_many_answers(self):
        finder = Finder(*LONG_RULE)
        many = 0
        while finder.next() is not None:
            finder.tell((many // 9) % 2)
            many += 1
            # Nine are wrong at each point, so that nineteen settle it.
            self.same((len(finder), len(finder.known())), (many, many // 19))
        self.same((many, finder.found()), (95, (0,) * 10))
        while many > 0:
            finder.undo()
            many -= 1
        self.same(finder == Finder(*LONG_RULE), True)

    def test_no_slots_one_rank_other_levels(self):
        finder = Finder(NONE, ("yes", 1))
        self.same(state(finder), ((), (), (), 1, None, 2, 0, []))
        finder.tell(0)
        finder.tell(1)
        self.same(state(finder), (None, (((), 0), ((), 1)), (((), 1),), 0, (1,), 0, 2, [((), 0), ((), 1)]))
        down = finder_told(((SWITCH_DOWN,), 0, 1, 2), ("low", 0), (1, 1))
        self.same((down.told(), down.found()), ((((0,), 1), ((1,), 1)), (1, 1)))
        cut = finder_told(((DIAL, SWITCH), 1, 1, 1), ("all", 0), (1, 0))
        self.same((cut.known(), cut.found()), ((((0, 1), 1), ((1, 0), 0)), (1, 0)))

    def test_refusals(self):
        for rule in NO_RULES:
            self.fails(NotUsable, {"word": "rule", "at": -1}, Finder, TWO, rule)
            self.fails(NotUsable, {"word": "rule", "at": -1}, Finder, rule=rule, bench=TWO)
        self.fails(NotUsable, {"word": "rule", "at": -1}, Finder, WARN, ("yes", 1))
        for finder in (Finder(WARN, ALL), finder_told(WARN, ALL, (1, 2)), finder_told(NONE, ("low", 0), (1,))):
            here = state(finder)
            for grade in NO_NUMBERS + (3, 10 ** 60 - 1):
                self.fails(NotUsable, {"word": "grade", "at": -1}, finder.tell, grade)
                self.fails(NotUsable, {"word": "grade", "at": -1}, finder.tell, grade=grade)
            self.same(state(finder), here)
        # No grade would be left; nothing is asked any more.
        finder = finder_told(WARN, ALL, (1, 2))
        self.fails(NotUsable, {"word": "grade", "at": -1}, finder.tell, 0)
        self.fails(NotUsable, {"word": "grade", "at": -1}, finder_told(NONE, ("low", 0), (1,)).tell, 1)
        self.fails(NothingToUndo, {"steps": 0}, Finder(TWO, ALL).undo)
