"""Live searches for a table, without wrong answers."""

from stubbornest.benches import number_of
from stubbornest.bounds import at_most
from stubbornest.errors import NothingToUndo
from stubbornest.kinds import is_index
from stubbornest.knowns import ceiling_of, floor_of
from stubbornest.nexttests import next_test
from stubbornest.refusals import require


class Search:
    """A search for the table of a bench, which begins with nothing known."""

    def __init__(self, bench):
        self._bench = bench
        self._course = ()

    def __eq__(self, other):
        return isinstance(other, Search) and self._bench == other._bench and self._course == other._course

    def next(self):
        """The point that is tested next, None if all points are settled."""
        return next_test(self._bench, self.known())

    def tell(self, point, grade):
        """Takes the answer of a test of a point that is not settled."""
        number = number_of(self._bench, point)
        least = self.floor()[number]
        most = self.ceiling()[number]
        require(least < most, "point")
        require(is_index(most + 1, grade) and least <= grade, "grade")
        self._course = self._course + ((point, grade),)

    def undo(self):
        """Takes back the last answer."""
        if not self._course:
            raise NothingToUndo(0)
        self._course = self._course[:-1]

    def told(self):
        """The answers, in the sequence in which they were told."""
        return self._course

    def known(self):
        """The answers, ascending."""
        return tuple(sorted(self._course))

    def floor(self):
        """The floor of the known."""
        return floor_of(self._bench, self.known())

    def ceiling(self):
        """The ceiling of the known."""
        return ceiling_of(self._bench, self.known())

    def left(self):
        """At most how many tests are left."""
        return at_most(self._bench, self.known())

    def found(self):
        """The table if all points are settled, else None."""
        table = self.floor()
        return table if table == self.ceiling() else None
