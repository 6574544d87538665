"""Small benches with all their tables, and what the definitions say of them, done the slow way."""

import functools

from stubbornest.shapes import flat, ladder
from tests import oracle
from tests.samples import DIAL, DIAL_MIXED, LOOSE, ONE_LEVEL, PAIRS, SMALL, SWITCH, SWITCH_DOWN

WORDS = ("all", "each", "low", "yes")


class World:
    """A bench; tables are tuples of grades, knowns and logs tuples of answers."""

    def __init__(self, bench):
        self.bench = bench
        self.top = bench[3]
        self.points = oracle.points(bench)
        self.at = {point: number for number, point in enumerate(self.points)}
        order = oracle.Order(bench)
        self.ranks = order.ranks
        # By number: what is below, what is above, without the point itself.
        self.below = [[j for j, y in enumerate(self.points) if order.below(y, x)] for x in self.points]
        self.above = [[j for j, y in enumerate(self.points) if order.below(x, y)] for x in self.points]
        self.names = oracle.chains(bench)
        self.kept = {}
        self.run = max([oracle.chart_run(chart) for chart in bench[0]], default=0)

    def on(self, name):
        """The points of the bench on a chain, upward."""
        return [point for point in self.names[name] if point in self.at]

    @functools.cached_property
    def rows(self):
        """The triples (size, name, points of the bench) of all chains with such points, in sequence."""
        rows = [(len(members), name, self.on(name)) for name, members in self.names.items()]
        return sorted(row for row in rows if row[2])

    @functools.cached_property
    def tables(self):
        rows = [()]
        for i in range(len(self.points)):
            below = [j for j in self.below[i] if j < i]
            above = [j for j in self.above[i] if j < i]
            rows = [
                row + (grade,)
                for row in rows
                for grade in range(self.top + 1)
                if all(row[j] <= grade for j in below) and all(row[j] >= grade for j in above)
            ]
        return rows

    def set_of(self, numbers):
        return tuple(self.points[number] for number in sorted(numbers))

    # Rims

    def raisable(self, table):
        return {i for i, grade in enumerate(table) if grade < self.top and all(table[j] > grade for j in self.above[i])}

    def lowerable(self, table):
        return {i for i, grade in enumerate(table) if grade > 0 and all(table[j] < grade for j in self.below[i])}

    def rim(self, table):
        return self.raisable(table) | self.lowerable(table)

    # Knowns

    def known(self, table, numbers):
        return tuple((self.points[i], table[i]) for i in sorted(numbers))

    def like(self, known):
        """All tables with these grades."""
        return [table for table in self.tables if all(table[self.at[point]] == grade for point, grade in known)]

    def bounds(self, known):
        """The pair (floor, ceiling); kept, since many tests ask for the same."""
        known = tuple(known)
        if known not in self.kept:
            told = [(self.at[point], grade) for point, grade in known]
            floor = tuple(
                max([grade for at, grade in told if at == i or at in self.below[i]], default=0)
                for i in range(len(self.points))
            )
            ceiling = tuple(
                min([grade for at, grade in told if at == i or at in self.above[i]], default=self.top)
                for i in range(len(self.points))
            )
            self.kept[known] = floor, ceiling
        return self.kept[known]

    def floor(self, known):
        return self.bounds(known)[0]

    def ceiling(self, known):
        return self.bounds(known)[1]

    def unsettled(self, known):
        return {i for i, (low, high) in enumerate(zip(self.floor(known), self.ceiling(known))) if low != high}

    def open_points(self, known, grade):
        floor, ceiling = self.floor(known), self.ceiling(known)
        return [point for point, low, high in zip(self.points, floor, ceiling) if low < grade <= high]

    # The next test

    def stretch(self, known, name, grade):
        free = self.open_points(known, grade)
        return tuple(point for point in self.on(name) if point in free)

    def wanted(self, known):
        free = self.unsettled(known)
        for _, name, row in self.rows:
            if [point for point in row if self.at[point] in free]:
                return name, min(grade for grade in range(1, self.top + 1) if self.stretch(known, name, grade))
        return None

    def next_test(self, known, uppermost=False):
        key = known, uppermost, "next"
        if key not in self.kept:
            pair = self.wanted(known)
            stretch = self.stretch(known, *pair) if pair else (None,)
            self.kept[key] = stretch[-1] if uppermost else stretch[len(stretch) // 2]
        return self.kept[key]

    def at_most(self, known):
        free = self.unsettled(known)
        total = 0
        for _, name, row in self.rows:
            unsettled = len([point for point in row if self.at[point] in free])
            steps = [len(self.stretch(known, name, grade)) for grade in range(1, self.top + 1)]
            total += min(unsettled, sum(oracle.bits(min(count, self.run + 2)) for count in steps))
        return total

    def course(self, table, known=(), uppermost=False):
        """The answers of a course, in sequence, and all knowns that it meets, the last one too."""
        course, knowns = [], [tuple(known)]
        while True:
            point = self.next_test(knowns[-1], uppermost)
            if point is None:
                return tuple(course), knowns
            course.append((point, table[self.at[point]]))
            knowns.append(tuple(sorted(knowns[-1] + (course[-1],))))

    # Prices

    def layer(self, rank):
        return len([point for point in self.ranks if self.ranks[point] == rank])

    @functools.cached_property
    def weight(self):
        return oracle.spread(self.bench, 2 * self.top)

    @functools.cached_property
    def long_weight(self):
        counts = [len(row) for _, _, row in self.rows]
        return sum(min(m, self.top * oracle.bits(min(m, self.run + 2))) for m in counts)

    def rules(self, wrongs):
        words = WORDS if self.top == 1 else WORDS[:3]
        return [(word, e) for word in words for e in wrongs]

    def times(self, rule, many):
        """How many answers settle so many points, under another word than "yes"."""
        word, e = rule
        return {"all": (e + 1) * many + e, "each": (2 * e + 1) * many, "low": (e + 1) * many}[word]

    def upper_price(self, e):
        return e * oracle.spread(self.bench, 1) + oracle.spread(self.bench, self.run + 2)

    @functools.cache
    def upper_first(self, rule):
        word, e = rule
        return word == "yes" and self.upper_price(e) <= (e + 1) * self.long_weight

    def span(self, rule):
        word, e = rule
        if word != "yes":
            return self.times(rule, self.weight), self.times(rule, self.long_weight)
        low, high = self.bench[1:3]
        least = (e + 1) * self.layer(high)
        for rank in range(low, high):
            least = max(least, (e + 1) * self.layer(rank) + self.layer(rank + 1))
        return least, min((e + 1) * self.long_weight, self.upper_price(e))

    def price(self, rule, table):
        word, e = rule
        if word != "yes":
            return self.times(rule, len(self.rim(table)))
        r, l = len(self.raisable(table)), len(self.lowerable(table))
        return (e + 1) * r + l if r else l + e

    # Rules, logs and tests

    def fits(self, rule, log, table):
        word, e = rule
        wrong = [(point, grade) for point, grade in log if table[self.at[point]] != grade]
        if word in ("all", "yes"):
            return len(wrong) <= e and not (word == "yes" and [grade for _, grade in wrong if grade == 1])
        if word == "low" and [grade for point, grade in wrong if grade > table[self.at[point]]]:
            return False
        return all(len([one for one in wrong if one[0] == point]) <= e for point in self.points)

    def fitting(self, rule, log):
        return [table for table in self.tables if self.fits(rule, log, table)]

    def wrong(self, log, table):
        """The indices of the answers that are wrong for the table."""
        return [index for index, (point, grade) in enumerate(log) if table[self.at[point]] != grade]

    def fewest(self, log):
        return min(len(self.wrong(log, table)) for table in self.tables)

    def falls(self, one, other):
        at, above = self.at[one[0]], self.at[other[0]]
        return one[1] > other[1] and (at == above or at in self.below[above])

    def possible(self, tables):
        """The sets of the grades that these tables have at each point."""
        return [tuple(sorted({table[at] for table in tables})) for at in range(len(self.points))]

    def some_log(self, rng, many, share=0.7):
        """A log with so many answers, of which about this share are those of one table."""
        table = rng.choice(self.tables)
        log = []
        for _ in range(many):
            at = rng.randrange(len(self.points))
            log.append((self.points[at], table[at] if rng.random() < share else rng.randint(0, self.top)))
        return tuple(log)

    def some_logs(self, rng, many, longest):
        """So many logs, () among them, with answers of no table at all and of one table alone."""
        shares = (1, 0.9, 0.7, 0)
        return [()] + [self.some_log(rng, rng.randint(1, longest), shares[i % 4]) for i in range(many - 1)]

    def facts(self, table):
        """For each number in the rim whether it is raisable, and the other grade there."""
        rising = self.raisable(table)
        return {at: (at in rising, table[at] + (1 if at in rising else -1)) for at in sorted(self.rim(table))}

    def short(self, rule, table, log):
        """The numbers of the points that lack, by how many answers there have the table's grade."""
        word, e = rule
        lacking = []
        for at, (rises, _) in self.facts(table).items():
            right = len([1 for point, grade in log if point == self.points[at] and grade == table[at]])
            if right <= e if word in ("all", "each") or rises else right == 0:
                lacking.append(at)
        return lacking

    def stand(self, rule, grades):
        """The state of follow behind the grades; the index of the first grade that cannot come if there is one."""
        key = rule, grades
        if key not in self.kept:
            if not grades:
                self.kept[key] = (), (), rule[1], (), self.next_test((), self.upper_first(rule))
            else:
                ahead = self.stand(rule, grades[:-1])
                self.kept[key] = ahead if isinstance(ahead, int) else self.stand_behind(rule, ahead, grades)
        return self.kept[key]

    def stand_behind(self, rule, ahead, grades):
        asked, known, still, heard, point = ahead
        if point is None:
            return len(grades) - 1
        at = self.at[point]
        heard += grades[-1:]
        left = left_by_words(rule, still, self.floor(known)[at], self.ceiling(known)[at], heard)
        if not left:
            return len(grades) - 1
        asked += (point,)
        if len(left) > 1:
            return asked, known, still, heard, point
        known = tuple(sorted(known + ((point, left[0]),)))
        still -= off_by_words(rule, left[0], heard)
        return asked, known, still, (), self.next_test(known, self.upper_first(rule))

    def follow(self, rule, grades):
        """What follow returns; the index of the first grade that cannot come in place of an error."""
        stand = self.stand(rule, grades)
        return stand if isinstance(stand, int) else stand[:3] + stand[4:]

    def judge(self, rule, table, grades):
        """What judge returns; the index of the first grade that cannot come in place of an error."""
        rising, sinking = self.raisable(table), self.lowerable(table)
        queue = sorted(sinking - rising) + sorted(rising)
        still, asked, heard, verdict = rule[1], [], (), None
        for index, grade in enumerate(grades):
            if verdict is not None:
                return index
            heard += (grade,)
            left = left_by_words(rule, still, 0, self.top, heard)
            if not left:
                return index
            asked.append(self.points[queue[0]])
            if len(left) == 1:
                still -= off_by_words(rule, left[0], heard)
                heard = ()
                if left[0] != table[queue[0]]:
                    verdict = False
                queue = queue[1:]
                if not queue and verdict is None:
                    verdict = True
        return tuple(asked), self.points[queue[0]] if verdict is None else None, verdict


def left_by_words(rule, still, least, most, grades):
    word, e = rule
    left = []
    for g in range(least, most + 1):
        others = len([one for one in grades if one != g])
        zeros = len([one for one in grades if one == 0])
        good = {
            "all": others <= still,
            "each": others <= e,
            "low": not [one for one in grades if one > g] and len([one for one in grades if one < g]) <= e,
            "yes": 1 not in grades if g == 0 else zeros <= still,
        }[word]
        if good:
            left.append(g)
    return tuple(left)


def off_by_words(rule, settled, grades):
    return len([one for one in grades if one != settled]) if rule[0] in ("all", "yes") else 0


# One point on the longer chain, three grades wide open: stretches of more than two points.
RUNS = [((ladder(5),), 0, 4, 2), ((ladder(4), ladder(4)), 0, 6, 1), ((ladder(7),), 1, 5, 1), ((ladder(4), SWITCH_DOWN), 0, 4, 1)]
CUT = [((DIAL_MIXED, SWITCH_DOWN), 1, 1, 1), ((DIAL_MIXED, SWITCH_DOWN), 2, 2, 3), ((LOOSE, SWITCH), 1, 1, 2)]
PLAIN = [bench for bench in SMALL if (bench[3] + 1) ** len(oracle.points(bench)) <= 2000]

WORLDS = [World(bench) for bench in PLAIN + RUNS + CUT + [((SWITCH,) * 4, 1, 3, 1)]]

# Benches so small that each sequence of grades can be gone through.
TINY = [World(bench) for bench in (
    ((), 0, 0, 1), ((), 0, 0, 3), ((SWITCH_DOWN,), 0, 1, 1), ((SWITCH,), 0, 1, 2), ((DIAL,), 0, 2, 1),
    ((SWITCH, SWITCH), 0, 2, 1), ((SWITCH, SWITCH), 0, 1, 1), ((SWITCH, SWITCH_DOWN), 1, 2, 1), ((SWITCH, SWITCH), 1, 1, 2),
    ((ladder(5),), 0, 4, 1), ((ladder(6),), 1, 4, 1), ((flat(2), ONE_LEVEL), 0, 0, 1), ((PAIRS,), 0, 1, 1),
    ((DIAL_MIXED, SWITCH), 0, 3, 1), ((DIAL, SWITCH), 2, 3, 1),
)]
