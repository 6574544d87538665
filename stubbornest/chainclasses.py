"""Chains as objects."""

from stubbornest.benchkinds import is_full
from stubbornest.counts import chain_counts
from stubbornest.members import members_of, next_down, next_up, within
from stubbornest.ranking import chain_number, nth_chain
from stubbornest.refusals import require
from stubbornest.threes import partners_at, run_on
from stubbornest.walks import chain_of, is_name, size_of


class Chain:
    """A chain of full points of a bench."""

    def __init__(self, bench, name):
        require(is_name(bench, name), "name")
        self._bench = bench
        self._name = name

    def __len__(self):
        return len(list(range(size_of(self._bench, self._name))))

    def __contains__(self, thing):
        return is_full(self._bench, thing) and chain_of(self._bench, thing)[0] == self._name

    def __eq__(self, other):
        return isinstance(other, Chain) and self._bench == other._bench and self._name == other._name

    def members(self):
        """All members, upward."""
        return members_of(self._bench, self._name)

    def within(self):
        """The pair (place of the first member that is a point of the bench, how many are)."""
        return within(self._bench, self._name)

    def up(self, point):
        """The next member above, or None."""
        require(point in self, "point")
        return next_up(self._bench, point)

    def down(self, point):
        """The next member below, or None."""
        require(point in self, "point")
        return next_down(self._bench, point)

    def number(self):
        """How many names of chains of the same size are less."""
        return chain_number(self._bench, self._name)

    def following(self):
        """The Chain of the same size with the next greater number, or None."""
        size = size_of(self._bench, self._name)
        behind = self.number() + 1
        if behind == dict(chain_counts(self._bench))[size]:
            return None
        return Chain(self._bench, nth_chain(self._bench, size, behind))

    def partners(self, place):
        """The partners of the three around the place."""
        return partners_at(self._bench, self._name, place)

    def run(self):
        """The greatest number of successive straight threes."""
        return run_on(self._bench, self._name)
