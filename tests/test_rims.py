"""Points 36 and 37: rims, lists, and the tables that lists make."""

import itertools

from stubbornest.errors import NotUsable
from stubbornest.lists import by_lower, by_upper, is_lower_list, is_upper_list, lower_list, upper_list
from stubbornest.rims import lowerable, raisable, rim_of, rim_on
from tests.cases import Case
from tests.samples import MIX, NONE, ODD, SWITCH, SWITCH_DOWN, TWO, WARN
from tests.test_tables import NO_TABLES
from tests.worlds import WORLDS, World


class Rims(Case):
    def test_examples(self):
        self.same(raisable(TWO, (0, 1, 1, 1)), ((0, 0),))
        self.same(lowerable(TWO, (0, 1, 1, 1)), ((0, 1), (1, 0)))
        self.same(rim_on(TWO, (0, 1, 1, 1), ((0, 0), (0, 0))), ((0, 0), (1, 0)))

    def test_all_points_of_all_tables(self):
        for world in WORLDS:
            bench = world.bench
            for table in world.tables:
                self.same(raisable(bench, table), world.set_of(world.raisable(table)))
                self.same(lowerable(bench, table), world.set_of(world.lowerable(table)))
                self.same(rim_of(bench, table), world.set_of(world.rim(table)))

    def test_on_each_chain(self):
        for world in WORLDS:
            for table in world.tables[::3]:
                rim = world.set_of(world.rim(table))
                for name, members in world.names.items():
                    told = rim_on(world.bench, table, name)
                    self.same(told, tuple(sorted(set(rim) & set(members))))
                    self.assertLessEqual(len(told), 2 * world.top)

    def test_a_set_is_ascending_where_the_chain_is_not(self):
        bench = ((SWITCH_DOWN,), 0, 1, 2)
        self.same(rim_on(bench, (1, 0), ((0, 0),)), ((0,), (1,)))
        self.same(rim_on(bench, (0, 0), ((0, 0),)), ((0,),))

    def test_both_at_once(self):
        bench = ((), 0, 0, 2)
        self.same(raisable(bench, (1,)), ((),))
        self.same(lowerable(bench, (1,)), ((),))
        self.same(rim_of(bench, (1,)), ((),))
        self.same(rim_on(bench, (2,), ()), ((),))

    def test_by_name(self):
        self.same(raisable(table=(0, 0, 0, 1), bench=TWO), ((0, 1), (1, 0)))
        self.same(lowerable(table=(0, 0, 0, 1), bench=TWO), ((1, 1),))
        self.same(rim_of(table=(0, 0, 1, 1), bench=TWO), ((0, 1), (1, 0)))
        self.same(rim_on(name=((0, 0), (0, 1)), table=(0, 0, 1, 1), bench=TWO), ((0, 1),))

    def test_refusals(self):
        for thing in NO_TABLES + ODD:
            for call in (raisable, lowerable, rim_of, upper_list, lower_list):
                self.fails(NotUsable, {"word": "table", "at": -1}, call, TWO, thing)
                self.fails(NotUsable, {"word": "table", "at": -1}, call, table=thing, bench=TWO)
            self.fails(NotUsable, {"word": "table", "at": -1}, rim_on, TWO, thing, ((0, 0), (0, 0)))
            self.fails(NotUsable, {"word": "table", "at": -1}, rim_on, TWO, thing, None)
        for name in ODD + (((0, 0), (0, 2)), ((0, 0), (0, True)), [(0, 0), (0, 0)], ((0, 1), (0, 0))):
            self.fails(NotUsable, {"word": "name", "at": -1}, rim_on, TWO, (0, 0, 0, 1), name)
            self.fails(NotUsable, {"word": "name", "at": -1}, rim_on, name=name, table=(0, 0, 0, 1), bench=TWO)


def is_list(world, answers, least, most):
    """Whether these ascending answers are a list with grades between least and most."""
    told = {world.at[point]: grade for point, grade in answers}
    if any(not least <= grade <= most for grade in told.values()):
        return False
    return all(told[j] < told[i] for i in told for j in world.below[i] if j in told)


class Lists(Case):
    def test_examples(self):
        self.same(upper_list(WARN, (0, 1, 1, 2)), (((0, 0), 0), ((0, 1), 1), ((1, 0), 1)))
        self.same(by_upper(WARN, (((0, 1), 0), ((1, 0), 1))), (0, 0, 1, 2))

    def test_of_all_tables_there_and_back(self):
        for world in WORLDS:
            bench = world.bench
            for table in world.tables:
                upper, lower = upper_list(bench, table), lower_list(bench, table)
                self.same(upper, world.known(table, world.raisable(table)))
                self.same(lower, world.known(table, world.lowerable(table)))
                self.same((is_upper_list(bench, upper), is_lower_list(bench, lower)), (True, True))
                self.same((by_upper(bench, upper), by_lower(bench, lower)), (table, table))

    def test_of_all_choices_of_answers(self):
        for world in WORLDS:
            if (world.top + 2) ** len(world.points) > 800:
                continue
            bench = world.bench
            for chosen in itertools.product([None] + list(range(world.top + 1)), repeat=len(world.points)):
                answers = tuple((point, g) for point, g in zip(world.points, chosen) if g is not None)
                upper, lower = is_list(world, answers, 0, world.top - 1), is_list(world, answers, 1, world.top)
                self.same((is_upper_list(bench, answers), is_lower_list(bench, answers)), (upper, lower))
                if upper:
                    table = by_upper(bench, answers)
                    self.same(table, world.ceiling(answers))
                    self.same(upper_list(bench, table), answers)
                else:
                    self.fails(NotUsable, {"word": "answers", "at": -1}, by_upper, bench, answers)
                if lower:
                    table = by_lower(bench, answers)
                    self.same(table, world.floor(answers))
                    self.same(lower_list(bench, table), answers)
                else:
                    self.fails(NotUsable, {"word": "answers", "at": -1}, by_lower, bench, answers)

    def test_nearly_lists(self):
        one, other, low = ((0, 1), 1), ((1, 0), 1), ((0, 0), 1)
        near = (
            [one, other], (other, one), (one, one), (one, ((0, 1), 0)), (low, one), (low, ((1, 1), 1)), one, (one, None),
            (list(one), other), (one, ((1, 0), True)), (one, ((1, True), 1)), (one, ((1, 0), 3)), (one, ((1, 0), -1)),
            (one, ((1, 2), 1)), (one, ((1, 0), 1, 1)), (one, ((1, 0), "1")), (((0, 1), 2), ((1, 0), 0)),
            (((0, 0), 1), ((1, 1), 0)),
        )
        for thing in near + ODD:
            good = thing == ()
            self.same(is_upper_list(WARN, thing), good)
            self.same(is_lower_list(thing=thing, bench=WARN), good)
            if not good:
                self.fails(NotUsable, {"word": "answers", "at": -1}, by_upper, WARN, thing)
                self.fails(NotUsable, {"word": "answers", "at": -1}, by_lower, answers=thing, bench=WARN)

    def test_the_empty_list(self):
        for world in WORLDS:
            many = len(world.points)
            self.same((is_upper_list(world.bench, ()), is_lower_list(world.bench, ())), (True, True))
            self.same(by_upper(world.bench, ()), (world.top,) * many)
            self.same(by_lower(answers=(), bench=world.bench), (0,) * many)
            self.same(upper_list(world.bench, (world.top,) * many), ())
            self.same(lower_list(table=(0,) * many, bench=world.bench), ())

    def test_top_and_nothing_are_barred(self):
        self.same(is_upper_list(TWO, (((0, 1), 0),)), True)
        self.same(is_upper_list(TWO, (((0, 1), 1),)), False)
        self.same(is_lower_list(TWO, (((0, 1), 1),)), True)
        self.same(is_lower_list(TWO, (((0, 1), 0),)), False)
        self.same(by_upper(NONE, (((), 0),)), (0,))
        self.same(by_lower(NONE, (((), 1),)), (1,))

    def test_raisable_points_of_one_grade_are_apart(self):
        for world in WORLDS:
            for table in world.tables:
                for call in (raisable, lowerable):
                    told = {world.at[point] for point in call(world.bench, table)}
                    for i in told:
                        self.same([j for j in world.below[i] if j in told and table[j] == table[i]], [])

    def test_far_apart(self):
        # The points between the two have no answer.
        world = World(((SWITCH,) * 3, 0, 3, 3))
        for low, high in itertools.product(range(4), repeat=2):
            answers = (((0, 0, 0), low), ((1, 1, 1), high))
            self.same(is_upper_list(world.bench, answers), low < high < 3)
            self.same(is_lower_list(world.bench, answers), 0 < low < high)
        self.same(by_upper(world.bench, (((0, 0, 0), 0), ((1, 1, 1), 2))), (0,) + (2,) * 7)
        self.same(by_lower(MIX, (((0, 1), 1),)), (0, 1, 0, 1, 0, 1))
