"""Finders: the tests of follow, led one by one."""

from stubbornest.errors import NothingToUndo
from stubbornest.following import asked_point, first_stand, plan_of, stand_behind
from stubbornest.kinds import is_index
from stubbornest.mostcosts import most_for
from stubbornest.refusals import require
from stubbornest.tablekinds import is_answer


class Finder:
    """Leads the tests of follow for a bench and a rule."""

    def __init__(self, bench, rule):
        self._bench = bench
        self._rule = rule
        self._plan = plan_of(bench, rule)
        self._stands = (first_stand(bench, self._plan),)
        self._log = ()

    def __len__(self):
        return len(self._log)

    def __iter__(self):
        return iter(self._log)

    def __contains__(self, thing):
        # Left to the iteration, True would be found where 1 was told.
        return is_answer(self._bench, thing) and thing in self._log

    def __eq__(self, other):
        return (
            isinstance(other, Finder)
            and self._bench == other._bench
            and self._rule == other._rule
            and self._log == other._log
        )

    def next(self):
        """The point that is asked next, None if all points are settled."""
        return asked_point(self._plan, self._stands[-1])

    def tell(self, grade):
        """Takes the grade of the point that is asked."""
        require(is_index(self._bench[3] + 1, grade), "grade")
        stand = stand_behind(self._plan, self._stands[-1], grade)
        require(stand is not None, "grade")
        self._log = self._log + ((self.next(), grade),)
        self._stands = self._stands + (stand,)

    def told(self):
        """The log of the answers."""
        return self._log

    def undo(self):
        """Takes back the last answer."""
        if not self._log:
            raise NothingToUndo(0)
        self._log = self._log[:-1]
        self._stands = self._stands[:-1]

    def known(self):
        """The known of the points that are settled by asking."""
        return self._stands[-1][1]

    def still(self):
        """How many wrong answers may still come."""
        return self._stands[-1][2]

    def found(self):
        """The table if all points are settled, else None."""
        if self.next() is not None:
            return None
        return tuple(self._stands[-1][0][0])

    def most(self):
        """At most how many tests are needed from this known and this still on."""
        return most_for(self._bench, self._rule, self.known(), self.still())
