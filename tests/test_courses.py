"""Point 46: courses of tables, with nothing known or something, and the longest ones."""

from stubbornest.bounds import at_most
from stubbornest.errors import NotUsable
from stubbornest.layers import weight_of
from stubbornest.plancourses import course_from, longest_course, plan_course
from stubbornest.shapes import flat, ladder
from stubbornest.tables import tables_of
from tests.cases import Case
from tests.samples import DIAL, MIX, NONE, ODD, SWITCH, SWITCH_DOWN, TWO, WARN
from tests.test_knowns import NO_KNOWNS, distinct, some_knowns
from tests.test_tables import NO_TABLES
from tests.worlds import WORLDS

F = (0, 1, 1, 1)


class Courses(Case):
    def test_examples(self):
        self.same(plan_course(TWO, F), (((0, 1), 1), ((1, 0), 1), ((0, 0), 0)))
        self.same(course_from(TWO, (((1, 0), 1),), F), (((0, 1), 1), ((0, 0), 0)))
        self.fails(NotUsable, {"word": "table", "at": -1}, course_from, TWO, (((1, 0), 0),), F)

    def test_of_all_tables(self):
        for world in WORLDS:
            for table in world.tables:
                course = plan_course(world.bench, table)
                self.same(course, world.course(table)[0])
                # It ends with this table alone, and not ahead of that.
                self.same(world.like(course), [table])
                self.same(len(world.like(course[:-1])) > 1, True)
                self.assertLessEqual(len(course), world.long_weight)

    def test_from_some_known_on(self):
        for world in WORLDS:
            for known in list(some_knowns(world))[::9]:
                known = distinct(known)
                for table in world.like(known)[::3]:
                    course = course_from(world.bench, known, table)
                    self.same(course, world.course(table, known)[0])
                    self.same(world.like(known + course), [table])
                    self.assertLessEqual(len(course), at_most(world.bench, known))
                    for number, (point, grade) in enumerate(course):
                        self.same(grade, table[world.at[point]])
                        self.assertIn(world.at[point], world.unsettled(known + course[:number]))

    def test_no_slots_and_one_rank(self):
        self.same(plan_course(NONE, (1,)), (((), 1),))
        self.same(course_from(NONE, (((), 1),), (1,)), ())
        cut = ((DIAL, SWITCH_DOWN), 1, 1, 2)
        self.same(plan_course(table=(2, 0), bench=cut), (((0, 0), 2), ((1, 1), 0)))
        self.same(course_from(table=(2, 0), known=(((1, 1), 0),), bench=cut), (((0, 0), 2),))

    def test_refusals(self):
        for known in NO_KNOWNS:
            self.fails(NotUsable, {"word": "known", "at": -1}, course_from, WARN, known, F)
            self.fails(NotUsable, {"word": "known", "at": -1}, course_from, WARN, known, None)
        for table in NO_TABLES + ODD:
            self.fails(NotUsable, {"word": "table", "at": -1}, plan_course, TWO, table)
            self.fails(NotUsable, {"word": "table", "at": -1}, plan_course, table=table, bench=TWO)
            self.fails(NotUsable, {"word": "table", "at": -1}, course_from, TWO, (), table)
            self.fails(NotUsable, {"word": "table", "at": -1}, course_from, table=table, known=(((0, 0), 0),), bench=TWO)
        for known in ((((0, 0), 1),), (((0, 1), 0),), (((0, 1), 1), ((1, 1), 0))):
            self.assertIn(self.raised(course_from, TWO, known, F).word, ("table", "known"))
        self.fails(NotUsable, {"word": "table", "at": -1}, course_from, WARN, (((0, 1), 2),), F)


class Longest(Case):
    def test_examples(self):
        self.same(longest_course(MIX), 4)
        self.same(longest_course(bench=TWO), 3)

    def test_over_all_tables(self):
        for world in WORLDS:
            longest = longest_course(world.bench)
            self.same(longest, max(len(world.course(table)[0]) for table in world.tables))
            self.assertLessEqual(weight_of(world.bench), longest)
            self.assertLessEqual(longest, world.long_weight)

    def test_ladders(self):
        for many in range(1, 40):
            self.same(longest_course(((ladder(many),), 0, many - 1, 1)), many.bit_length())

    def test_two_thousand_tables(self):
        for bench in (((ladder(61),), 0, 60, 2), ((flat(10),), 0, 0, 1), ((SWITCH,) * 4, 0, 4, 1), ((flat(3),), 0, 0, 9)):
            tables = list(tables_of(bench))
            self.assertLessEqual(len(tables), 2000)
            courses = [len(plan_course(bench, table)) for table in tables[::7]]
            self.assertLessEqual(max(courses), longest_course(bench))
        self.same(longest_course(((flat(10),), 0, 0, 1)), 10)
        self.same(longest_course(((flat(3),), 0, 0, 9)), 3)
