"""Benches as objects."""

from stubbornest.benches import points_of
from stubbornest.benchkinds import is_point
from stubbornest.changes import cut_to, face_of, grown


class Bench:
    """A bench as an object, which never changes."""

    def __init__(self, bench):
        self._bench = bench
        self._points = points_of(bench)

    def __len__(self):
        return len(self._points)

    def __iter__(self):
        return iter(self._points)

    def __contains__(self, thing):
        return is_point(self._bench, thing)

    def __eq__(self, other):
        return isinstance(other, Bench) and self._bench == other._bench

    def told(self):
        """The bench."""
        return self._bench

    def cut(self, low, high):
        """The Bench with another range of ranks."""
        return Bench(cut_to(self._bench, low, high))

    def face(self, slot, level):
        """The Bench of the points with this level in the slot, without the slot."""
        return Bench(face_of(self._bench, slot, level))

    def grow(self, chart):
        """The Bench with the chart as its last slot."""
        return Bench(grown(self._bench, chart))
