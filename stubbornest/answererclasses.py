"""Answerers as objects."""

from stubbornest.answering import answerer_of, grade_told, pair_left, short_points
from stubbornest.benchkinds import is_point
from stubbornest.errors import NothingToUndo
from stubbornest.refusals import require
from stubbornest.tablekinds import is_answer


class Answerer:
    """The answerer of a table, asked step by step."""

    def __init__(self, bench, rule, table):
        self._bench = bench
        self._rule = rule
        self._table = table
        self._answerer = answerer_of(bench, rule, table)
        self._log = ()

    def __len__(self):
        return len(self._log)

    def __iter__(self):
        return iter(self._log)

    def __contains__(self, thing):
        # Left to the iteration, True would be found where 1 was told.
        return is_answer(self._bench, thing) and thing in self._log

    def __eq__(self, other):
        return (
            isinstance(other, Answerer)
            and self._bench == other._bench
            and self._rule == other._rule
            and self._table == other._table
            and self._log == other._log
        )

    def answer(self, point):
        """Tests the point and returns the grade told."""
        require(is_point(self._bench, point), "point")
        grade = grade_told(self._answerer, self._log, point)
        self._log = self._log + ((point, grade),)
        return grade

    def answers(self):
        """The log of the answers."""
        return self._log

    def lacking(self):
        """The set of the points that lack."""
        return short_points(self._answerer, self._log)

    def pair(self):
        """Two tables that fit, the stated one among them; None if no point lacks."""
        return pair_left(self._bench, self._answerer, self._log)

    def undo(self):
        """Takes back the last answer."""
        if not self._log:
            raise NothingToUndo(0)
        self._log = self._log[:-1]
