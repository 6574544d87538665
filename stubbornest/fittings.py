"""Tables that fit a log, with a stated grade at a point or without."""

from stubbornest.benches import masks_of, points_of
from stubbornest.falling import all_digits, coupled, fallen_bits, falls_to
from stubbornest.logs import is_fit
from stubbornest.mildest import least_mild
from stubbornest.pointwise import least_fitting, lefts_of


class Fittings:
    """The tables that fit a log under a rule."""

    def __init__(self, bench, rule, log):
        self._bench = bench
        self._rule = rule
        self._log = log
        self._points = points_of(bench)
        self._masks = masks_of(bench)
        # Under "all" the answers of all points count together; else each point has grades of its own.
        self._falls = fallen_bits(bench, log) if rule[0] == "all" else []
        self._lefts = [] if rule[0] == "all" else lefts_of(bench, rule, log)

    def first(self):
        """Some table that fits; None if none does."""
        if self._rule[0] != "all":
            return least_fitting(self._bench, self._rule, self._log, self._lefts)
        wrong, table = least_mild(self._bench, self._log)
        return table if wrong <= self._rule[1] else None

    def having(self, number, grade):
        """Some table that fits and has this grade at the point with this number; None if none does."""
        if self._rule[0] == "all":
            return self._mild_having((self._points[number], grade))
        if grade not in self._lefts[number]:
            return None
        lefts = self._lefts[:number] + [(grade,)] + self._lefts[number + 1:]
        return least_fitting(self._bench, self._rule, self._log, lefts)

    def _mild_having(self, answer):
        """Under "all": some table that fits and for which the answer is right; None if none does."""
        fewest = self._fewest_having(answer)
        if fewest > self._rule[1]:
            return None
        # Told so often, the answer is right in every mild table.
        return least_mild(self._bench, self._log + (answer,) * (fewest + 1))[1]

    def _fewest_having(self, answer):
        """How many answers of the log are wrong at least if this one is right."""
        kept = all_digits(len(self._log))
        dropped = 0
        for index, other in enumerate(self._log):
            if falls_to(self._masks, answer, other) or falls_to(self._masks, other, answer):
                kept = kept ^ (1 << index)
                dropped = dropped + 1
        return dropped + len(coupled(self._falls, kept)[0])

    def differing(self, table, number):
        """Some table that fits and has another grade than this one at the point with this number, or None."""
        for grade in range(self._bench[3] + 1):
            found = self.having(number, grade) if grade != table[number] else None
            if found is not None:
                return found
        return None

    def second(self, table):
        """Some table that fits and is not this one, which fits, too; None if there is none."""
        for number in range(len(table)):
            found = self.differing(table, number)
            if found is not None:
                return found
        return None

    def beside(self, table):
        """Another table that fits and is nowhere less, or nowhere greater, than this one; None if there is none."""
        other = self.second(table)
        if other is None:
            return None
        lesser = tuple([min(one, two) for one, two in zip(table, other)])
        greater = tuple([max(one, two) for one, two in zip(table, other)])
        # At each point both together have as many wrong answers as the two tables, so that one of them fits.
        if lesser != table and is_fit(self._bench, self._rule, self._log, lesser):
            return lesser
        return greater

    def sure(self):
        """The known of the points at which all tables that fit have the same grade."""
        table = self.first()
        if table is None:
            return ()
        unsure = {}
        for number in range(len(table)):
            other = self.differing(table, number) if number not in unsure else None
            if other is not None:
                unsure.update({at: True for at in range(len(table)) if table[at] != other[at]})
        return tuple([(self._points[at], table[at]) for at in range(len(table)) if at not in unsure])
