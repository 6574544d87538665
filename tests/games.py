"""The least number of tests by its definition: a game against all tables, for very small benches."""


class Game:
    """A world and a rule; a state tells of each table, in sequence, what was wrong for it, None if it cannot fit."""

    def __init__(self, world, rule):
        self.world = world
        self.word, self.limit = rule
        self.values = {}

    def start(self):
        nothing = (0,) if self.word in ("all", "yes") else (0,) * len(self.world.points)
        return (nothing,) * len(self.world.tables)

    def burden(self, table, wrong, at, grade):
        if wrong is None or table[at] == grade:
            return wrong
        if (self.word == "low" and grade > table[at]) or (self.word == "yes" and grade == 1):
            return None
        place = 0 if len(wrong) == 1 else at
        more = wrong[:place] + (wrong[place] + 1,) + wrong[place + 1:]
        return more if more[place] <= self.limit else None

    def behind(self, state, at, grade):
        return tuple(self.burden(table, wrong, at, grade) for table, wrong in zip(self.world.tables, state))

    def is_over(self, state, stated):
        """Whether at most one table fits; or, if one is stated, whether it is known to be the table or not to be."""
        left = [table for table, wrong in zip(self.world.tables, state) if wrong is not None]
        return len(left) <= 1 or (stated is not None and stated not in left)

    def least(self, state, stated=None):
        if self.is_over(state, stated):
            return 0
        if (state, stated) not in self.values:
            best = None
            for at in range(len(self.world.points)):
                states = [self.behind(state, at, grade) for grade in range(self.world.top + 1)]
                states = [after for after in states if after.count(None) < len(after)]
                # A test that may change nothing is never of use.
                if state not in states:
                    value = 1 + max(self.least(after, stated) for after in states)
                    best = value if best is None else min(best, value)
            self.values[state, stated] = best
        return self.values[state, stated]

    def least_number(self):
        return self.least(self.start())

    def claim(self, table, log=()):
        """The price of the claim; behind a log how many further tests it needs."""
        state = self.start()
        for point, grade in log:
            state = self.behind(state, self.world.at[point], grade)
        return self.least(state, table)
