"""Tables as objects."""

from stubbornest.changes import face_of
from stubbornest.facetables import face_table
from stubbornest.refusals import require
from stubbornest.rims import rim_of
from stubbornest.stubborn import changed
from stubbornest.tablekinds import is_answer, is_table
from stubbornest.tablepapers import table_paper
from stubbornest.tables import answers_of, grade_at, greater, lesser, turned_table
from stubbornest.turning import turned


class Table:
    """A table of a bench."""

    def __init__(self, bench, table):
        require(is_table(bench, table), "table")
        self._bench = bench
        self._table = table
        self._answers = answers_of(bench, table)

    def __iter__(self):
        return iter(self._answers)

    def __contains__(self, thing):
        # Left to the iteration, True would be found where there is 1.
        return is_answer(self._bench, thing) and thing in self._answers

    def __eq__(self, other):
        return isinstance(other, Table) and self._bench == other._bench and self._table == other._table

    def __and__(self, other):
        require(isinstance(other, Table) and self._bench == other._bench, "other")
        return Table(self._bench, lesser(self._bench, self._table, other._table))

    def __or__(self, other):
        require(isinstance(other, Table) and self._bench == other._bench, "other")
        return Table(self._bench, greater(self._bench, self._table, other._table))

    def grades(self):
        """The table."""
        return self._table

    def grade_of(self, point):
        """The grade at the point."""
        return grade_at(self._bench, self._table, point)

    def rim(self):
        """The set of the points in the rim."""
        return rim_of(self._bench, self._table)

    def paper(self):
        """The pair of the known of the grades at the rim, and the table."""
        return table_paper(self._bench, self._table)

    def change(self, point):
        """Takes another grade at the point of the rim."""
        self._table = changed(self._bench, self._table, point)
        self._answers = answers_of(self._bench, self._table)

    def face(self, slot, level):
        """The Table of the face."""
        return Table(face_of(self._bench, slot, level), face_table(self._bench, slot, level, self._table))

    def upside_down(self):
        """The Table of the turned bench."""
        return Table(turned(self._bench), turned_table(self._bench, self._table))
