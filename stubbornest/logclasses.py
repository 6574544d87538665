"""Logs as objects."""

from stubbornest.benchkinds import is_point, is_rule
from stubbornest.falling import fewest_wrong
from stubbornest.kinds import is_index
from stubbornest.possible import possible_at, shown_table, sure_points, two_fits
from stubbornest.refusals import require
from stubbornest.tablekinds import is_answer


class Log:
    """A log of a bench under a rule, which begins without answers."""

    def __init__(self, bench, rule):
        require(is_rule(bench[3], rule), "rule")
        self._bench = bench
        self._rule = rule
        self._log = ()

    def __len__(self):
        return len(self._log)

    def __iter__(self):
        return iter(self._log)

    def __contains__(self, thing):
        # Left to the iteration, True would be found where 1 was told.
        return is_answer(self._bench, thing) and thing in self._log

    def __eq__(self, other):
        return (
            isinstance(other, Log)
            and self._bench == other._bench
            and self._rule == other._rule
            and self._log == other._log
        )

    def add(self, point, grade):
        """Puts an answer last."""
        require(is_point(self._bench, point), "point")
        require(is_index(self._bench[3] + 1, grade), "grade")
        self._log = self._log + ((point, grade),)

    def drop(self, index):
        """Takes out the answer with this index."""
        require(is_index(len(self._log), index), "index")
        self._log = self._log[:index] + self._log[index + 1:]

    def answers(self):
        """The log."""
        return self._log

    def possible(self, point):
        """The set of the grades that are possible at the point."""
        return possible_at(self._bench, self._rule, self._log, point)

    def sure(self):
        """The known of all sure points with their grades."""
        return sure_points(self._bench, self._rule, self._log)

    def shown(self):
        """The table that the log shows, or None."""
        return shown_table(self._bench, self._rule, self._log)

    def two(self):
        """Two different tables that fit, or None."""
        return two_fits(self._bench, self._rule, self._log)

    def fewest(self):
        """The least number of answers that are wrong, over all tables."""
        return fewest_wrong(self._bench, self._log)
