import itertools
import random

from stubbornest.benches import points_of
from stubbornest.errors import NotUsable
from stubbornest.tablekinds import is_answer, is_known, is_table
from stubbornest.tables import grade_at, greater, lesser, rank_table, tables_of, turned_table
from stubbornest.thresholds import stacked, threshold_table
from stubbornest.turning import turned
from stubbornest.shapes import flat, ladder
from tests import oracle
from tests.cases import Case
from tests.samples import DIAL, MIX, NO_NUMBERS, NONE, ODD, ONE_LEVEL, SMALL, SWITCH, SWITCH_DOWN, TWO, WARN

FEW = [bench for bench in SMALL if (bench[3] + 1) ** len(oracle.points(bench)) <= 20000]
HIGH = ((SWITCH, SWITCH_DOWN), 1, 2, 9)


def some_tables(bench):
    return oracle.tables(bench)[::max(1, len(oracle.tables(bench)) // 12)]


class Kinds(Case):
    def test_examples(self):
        self.same([is_table(TWO, (0, 1, 0, 1)), is_table(TWO, (0, 1, 0, 0))], [True, False])

    def test_tables_among_all_tuples(self):
        for bench in FEW:
            good = set(oracle.tables(bench))
            many = len(oracle.points(bench))
            if (bench[3] + 1) ** many <= 600:
                for thing in itertools.product(range(bench[3] + 1), repeat=many):
                    self.same(is_table(bench, thing), thing in good)
                    self.same(is_known(bench, tuple(zip(oracle.points(bench), thing))), thing in good)

    def test_near_tables(self):
        for bench in FEW:
            table = oracle.tables(bench)[-1]
            near = (
                list(table), table + (bench[3],), table[1:], (table,), (bench[3] + 1,) * len(table), (-1,) + table[1:],
                table[:-1] + (str(table[-1]),), table[:-1] + (True,), (False,) + table[1:], table[:-1] + (None,),
                (10 ** 60 - 1,) * len(table),
            )
            for thing in near + ODD:
                self.same(is_table(bench, thing), False, thing)
                self.same(is_table(thing=thing, bench=bench), False, thing)

    def test_answers(self):
        for bench in (TWO, WARN, ((DIAL, SWITCH), 1, 2, 2), HIGH):
            inside = oracle.points(bench)
            for point in oracle.full_points(bench):
                for grade in range(-1, 12):
                    good = point in inside and 0 <= grade <= bench[3]
                    self.same(is_answer(bench, (point, grade)), good)
            point = inside[0]
            near = (
                [point, 0], (point,), (point, 0, 0), (0, point), (list(point), 0), (point, "0"), (point, None),
                (point, True), (point, False), (point, (0,)), ((0, True), 0), (None, 0), ((), 0), point,
                (point, 10 ** 60 - 1),
            )
            for thing in near + ODD:
                self.same(is_answer(thing=thing, bench=bench), False, thing)
        self.same(is_answer(NONE, ((), 1)), True)
        self.same(is_answer(NONE, ((), 2)), False)

    def test_knowns(self):
        for bench in (TWO, WARN, MIX, ((DIAL, SWITCH), 1, 2, 1), ((SWITCH_DOWN, SWITCH), 0, 2, 1)):
            inside = oracle.points(bench)
            tables = oracle.tables(bench)
            for chosen in itertools.product([None] + list(range(bench[3] + 1)), repeat=len(inside)):
                known = tuple((point, grade) for point, grade in zip(inside, chosen) if grade is not None)
                good = any(all(g in (None, h) for g, h in zip(chosen, table)) for table in tables)
                self.same(is_known(bench, known), good)
                if len(known) > 1:
                    self.same(is_known(bench, known[::-1]), False)

    def test_near_knowns(self):
        one, other = ((0, 0), 0), ((0, 1), 1)
        self.same(is_known(TWO, ()), True)
        self.same(is_known(thing=(one, other), bench=TWO), True)
        near = (
            [one, other], (one, list(other)), (other, one), (one, one), (one, ((0, 0), 1)), (((0, 0), 1), ((0, 0), 0)),
            (one, ((0, 1), True)), (one, ((0, 1), 2)), (one, ((0, 2), 1)), one, (one, None), (((0, 0), 1), ((1, 1), 0)),
            (one, ((0, True), 1)), (((0, 0), 1), ((0, 1), 0)),
        )
        for thing in near + ODD:
            self.same(is_known(TWO, thing), False, thing)
        self.same(is_known(NONE, (((), 1),)), True)
        self.same(is_known(NONE, (((), 0), ((), 1))), False)

    def test_knowns_far_apart(self):
        # Two points that are only joined by points outside of the known.
        bench = ((ladder(6),), 1, 4, 3)
        self.same(is_known(bench, (((1,), 2), ((4,), 1))), False)
        self.same(is_known(bench, (((1,), 1), ((4,), 2))), True)


class Tables(Case):
    def test_examples(self):
        wanted = [(0, 0, 0, 0), (0, 0, 0, 1), (0, 0, 1, 1), (0, 1, 0, 1), (0, 1, 1, 1), (1, 1, 1, 1)]
        self.same(list(tables_of(TWO)), wanted)
        self.same(turned_table(WARN, (0, 0, 1, 2)), (2, 2, 1, 0))
        self.same(len(list(tables_of(MIX))), 10)

    def test_all_tables(self):
        for bench in FEW:
            self.same(list(tables_of(bench)), oracle.tables(bench))
        self.same(list(tables_of(bench=NONE)), [(0,), (1,)])

    def test_many_tables(self):
        for bench in (((SWITCH,) * 4, 0, 4, 1), ((SWITCH, DIAL, DIAL), 0, 5, 1), ((flat(10),), 0, 0, 1), ((ladder(40),), 0, 39, 2)):
            told = list(tables_of(bench))
            self.same(told, sorted(set(told)))
            for table in told[::17]:
                self.same(is_table(bench, table), True)
        self.same(len(list(tables_of(((SWITCH,) * 4, 0, 4, 1)))), 168)
        self.same(len(list(tables_of(((flat(10),), 0, 0, 1)))), 1024)
        self.same(len(list(tables_of(((ladder(40),), 0, 39, 2)))), 861)
        self.same(len(list(tables_of(((ONE_LEVEL,) * 60, 0, 0, 9)))), 10)

    def test_they_come_one_by_one(self):
        told = tables_of(((flat(64),), 0, 0, 9))
        self.same(iter(told) is told, True)
        self.same(next(told), (0,) * 64)
        self.same(next(told), (0,) * 63 + (1,))

    def test_two_tables(self):
        for bench in FEW:
            tables = some_tables(bench)
            for one in tables:
                for point, grade in zip(oracle.points(bench), one):
                    self.same(grade_at(bench, one, point), grade)
                for other in tables:
                    low = tuple(min(pair) for pair in zip(one, other))
                    high = tuple(max(pair) for pair in zip(one, other))
                    self.same(lesser(bench, one, other), low)
                    self.same(greater(bench, one, other), high)
                    self.same(is_table(bench, low) and is_table(bench, high), True)
        self.same(lesser(other=(0, 1, 0, 1), one=(0, 0, 1, 1), bench=TWO), (0, 0, 0, 1))
        self.same(greater(other=(0, 1, 0, 1), one=(0, 0, 1, 1), bench=TWO), (0, 1, 1, 1))
        self.same(grade_at(point=(1, 0), table=(0, 0, 1, 1), bench=TWO), 1)

    def test_rank_tables(self):
        for bench in SMALL:
            low, high, top = bench[1:]
            rows = itertools.combinations_with_replacement(range(top + 1), high - low + 1)
            for grades in list(rows)[:40]:
                table = tuple(grades[oracle.rank(bench, point) - low] for point in oracle.points(bench))
                self.same(rank_table(bench, grades), table)
                self.same(is_table(bench, table), True)
        self.same(rank_table(grades=(0, 2), bench=((DIAL_DOWN,), 1, 2, 2)), (2, 0))

    def test_turned_tables(self):
        for bench in FEW:
            for table in some_tables(bench):
                upside = turned_table(bench, table)
                self.same(upside, tuple(bench[3] - grade for grade in table))
                self.same(is_table(turned(bench), upside), True)
                self.same(turned_table(turned(bench), upside), table)
                for point in points_of(bench):
                    grade = bench[3] - grade_at(bench, table, point)
                    self.same(grade_at(turned(bench), upside, point), grade)
        self.same(turned_table(table=(0, 0, 0, 1), bench=TWO), (1, 1, 1, 0))


DIAL_DOWN = (((1,), (2,), ()), ((2, 1, 0),))
NO_TABLES = (
    None, (), (0,), (0, 0, 0), (0, 0, 0, 0, 0), [0, 0, 0, 0], (0, 1, 0, 0), (1, 0, 0, 1), (0, 0, 0, 2), (0, 0, 0, True),
    (False, 0, 0, 0), (0, 0, 0, -1), "0001", (0, 0, 0, None), ((0, 0, 0, 1),),
)


class Refusals(Case):
    def test_tables(self):
        table = (0, 0, 0, 1)
        for thing in NO_TABLES + ODD:
            self.fails(NotUsable, {"word": "table", "at": -1}, grade_at, TWO, thing, (0, 0))
            self.fails(NotUsable, {"word": "table", "at": -1}, grade_at, TWO, thing, None)
            self.fails(NotUsable, {"word": "table", "at": -1}, turned_table, table=thing, bench=TWO)
            self.fails(NotUsable, {"word": "table", "at": -1}, threshold_table, TWO, thing, None)
            for call in (lesser, greater):
                self.fails(NotUsable, {"word": "one", "at": -1}, call, TWO, thing, thing)
                self.fails(NotUsable, {"word": "other", "at": -1}, call, TWO, table, thing)
                self.fails(NotUsable, {"word": "one", "at": -1}, call, other=table, one=thing, bench=TWO)

    def test_points(self):
        cut = ((DIAL, SWITCH), 1, 2, 1)
        for point in ODD + ((0, 0), (2, 1), (0, 2), [0, 1], (0, True)):
            self.fails(NotUsable, {"word": "point", "at": -1}, grade_at, cut, (0, 0, 0, 1), point)
            self.fails(NotUsable, {"word": "point", "at": -1}, grade_at, point=point, table=(0,) * 4, bench=cut)

    def test_rank_grades(self):
        near = ((0, 1), (0, 1, 1, 1), (1, 0, 0), (0, 1, 0), (0, 0, 3), [0, 1, 2], (0, 1, True), (0, -1, 1), (0, "1", 2), "012")
        for grades in near + ODD:
            self.fails(NotUsable, {"word": "grades", "at": -1}, rank_table, WARN, grades)
            self.fails(NotUsable, {"word": "grades", "at": -1}, rank_table, grades=grades, bench=WARN)
        self.same(rank_table(WARN, (0, 1, 2)), (0, 1, 1, 2))


class Thresholds(Case):
    def test_examples(self):
        self.fails(NotUsable, {"word": "grade", "at": -1}, threshold_table, WARN, (0, 1, 1, 2), 0)
        self.same(stacked(WARN, ((0, 1, 1, 1), (0, 0, 0, 1))), (0, 1, 1, 2))

    def test_there_and_back(self):
        for bench in FEW:
            plain = bench[:3] + (1,)
            for table in some_tables(bench):
                rows = tuple(threshold_table(bench, table, grade) for grade in range(1, bench[3] + 1))
                for grade, row in enumerate(rows):
                    self.same(row, tuple(1 if reached > grade else 0 for reached in table))
                    self.same(is_table(plain, row), True)
                self.same(stacked(bench, rows), table)
                self.same(stacked(thresholds=rows, bench=bench), table)

    def test_stacks_and_back(self):
        rng = random.Random(15)
        for bench in FEW:
            plain = oracle.tables(bench[:3] + (1,))
            for _ in range(10):
                rows = sorted((rng.choice(plain) for _ in range(bench[3])), reverse=True)
                good = all(x >= y for one, other in zip(rows, rows[1:]) for x, y in zip(one, other))
                if good:
                    table = stacked(bench, tuple(rows))
                    told = [threshold_table(bench, table, grade) for grade in range(1, bench[3] + 1)]
                    self.same(told, rows)
                else:
                    self.fails(NotUsable, {"word": "thresholds", "at": -1}, stacked, bench, tuple(rows))

    def test_refused_grades(self):
        for grade in NO_NUMBERS + (0, 3, 10 ** 60 - 1):
            self.fails(NotUsable, {"word": "grade", "at": -1}, threshold_table, WARN, (0, 1, 1, 2), grade)
            self.fails(NotUsable, {"word": "grade", "at": -1}, threshold_table, grade=grade, table=(0,) * 4, bench=WARN)
        self.same(threshold_table(grade=1, table=(0, 1, 1, 2), bench=WARN), (0, 1, 1, 1))
        self.same(threshold_table(WARN, (0, 1, 1, 2), 2), (0, 0, 0, 1))

    def test_refused_thresholds(self):
        one, other = (0, 1, 1, 1), (0, 0, 0, 1)
        near = (
            [one, other], (other, one), (one,), (one, other, other), (), (list(one), other), (one, (0, 0, 0, 2)),
            (one, (0, 0, 0, True)), (one, (0, 1, 0, 0)), (one, None), (one, (0, 0, 1)), ((0, 1, 0, 1), (0, 0, 1, 1)),
            (one, (1, 1, 1, 1)), one, ((0, 1, 1, 2), other),
        )
        for thing in near + ODD:
            self.fails(NotUsable, {"word": "thresholds", "at": -1}, stacked, WARN, thing)
            self.fails(NotUsable, {"word": "thresholds", "at": -1}, stacked, thresholds=thing, bench=WARN)
        self.same(stacked(TWO, (one,)), one)
        self.same(stacked(NONE, ((1,),)), (1,))
        self.same(stacked(HIGH, ((0, 1, 0),) * 9), (0, 9, 0))
