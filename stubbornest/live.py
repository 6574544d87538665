"""Live benches, whose slots, rules and answers come and go."""

from stubbornest.benchkinds import is_rule
from stubbornest.edits import bench_behind, log_behind, reason_by
from stubbornest.errors import InvalidEvent, NothingToUndo
from stubbornest.fittings import Fittings
from stubbornest.following import next_under
from stubbornest.lackings import lacking
from stubbornest.liveevents import EVENT_WORDS, is_event
from stubbornest.possible import possible_at, shown_table, sure_points
from stubbornest.prices import price_span
from stubbornest.refusals import require


def rule_behind(rule, event):
    """The rule behind the event."""
    return event[1:] if event[0] == "rule" else rule


def state_behind(state, event):
    """The pair (reason for which the event is barred, None), or (None, state behind it)."""
    bench, rule, log = state
    reason = reason_by(bench, event)
    if reason is not None:
        return reason, None
    bench_then = bench_behind(bench, event)
    rule_then = rule_behind(rule, event)
    log_then = log_behind(bench, log, event)
    if Fittings(bench_then, rule_then, log_then).first() is None:
        return "fits", None
    return None, (bench_then, rule_then, log_then)


class LiveBench:
    """A bench, a rule and a log, which events change, and the diary of these."""

    def __init__(self, bench, rule):
        require(is_rule(bench[3], rule), "rule")
        self._states = ((bench, rule, ()),)
        self._diary = ()

    def __len__(self):
        return len(self._diary)

    def __iter__(self):
        return iter(self._diary)

    def __contains__(self, thing):
        # Left to the iteration, True would be found where there is 1.
        return is_event(thing) and thing in self._diary

    def __eq__(self, other):
        return isinstance(other, LiveBench) and self._states[0] == other._states[0] and self._diary == other._diary

    def _step(self, event):
        """Does the event unless it is barred; returns the reason for which it is, else None."""
        reason, state = state_behind(self._states[-1], event)
        if reason is None:
            self._states = self._states + (state,)
            self._diary = self._diary + (event,)
        return reason

    def do(self, event):
        """Does the event."""
        reason = self._step(event)
        if reason is not None:
            raise InvalidEvent(event, reason)

    def test(self, point, grade):
        """Does a "test"."""
        self.do(("test", point, grade))

    def come(self, chart, level):
        """Does a "come"."""
        self.do(("come", chart, level))

    def go(self, slot, level):
        """Does a "go"."""
        self.do(("go", slot, level))

    def set_rule(self, word, e):
        """Does a "rule"."""
        self.do(("rule", word, e))

    def set_range(self, low, high):
        """Does a "range"."""
        self.do(("range", low, high))

    def barred(self, event):
        """The reason for which the event is barred; None if it is not."""
        return state_behind(self._states[-1], event)[0]

    def tried(self, event):
        """The pair (bench, log) that would be there behind the event."""
        reason, state = state_behind(self._states[-1], event)
        if reason is not None:
            raise InvalidEvent(event, reason)
        return state[0], state[2]

    def undo(self):
        """Takes back the last event of the diary and returns it."""
        if not self._diary:
            raise NothingToUndo(0)
        event = self._diary[-1]
        self._states = self._states[:-1]
        self._diary = self._diary[:-1]
        return event

    def do_all(self, events, keep=False):
        """Does the events one by one; if one is barred, those of this call stay only if keep is True."""
        require(isinstance(events, tuple), "events")
        require(isinstance(keep, bool), "keep")
        states = self._states
        diary = self._diary
        for event in events:
            reason = self._step(event)
            if reason is not None:
                if not keep:
                    self._states = states
                    self._diary = diary
                raise InvalidEvent(event, reason)

    def tally(self):
        """How many events of the diary have each of the five words."""
        words = [event[0] for event in self._diary]
        return tuple([words.count(word) for word in EVENT_WORDS])

    def diary(self):
        """The events that were done and not taken back."""
        return self._diary

    def bench_now(self):
        """The bench."""
        return self._states[-1][0]

    def rule_now(self):
        """The rule."""
        return self._states[-1][1]

    def log_now(self):
        """The log."""
        return self._states[-1][2]

    def span_now(self):
        """The pair of the bounds of the least number."""
        return price_span(self.bench_now(), self.rule_now())

    def possible_now(self, point):
        """The set of the grades that are possible at the point."""
        return possible_at(self.bench_now(), self.rule_now(), self.log_now(), point)

    def sure_now(self):
        """The known of all sure points with their grades."""
        return sure_points(self.bench_now(), self.rule_now(), self.log_now())

    def shown_now(self):
        """The table that the log shows, or None."""
        return shown_table(self.bench_now(), self.rule_now(), self.log_now())

    def next_now(self):
        """The point that is tested next, None if all points are sure."""
        return next_under(self.bench_now(), self.rule_now(), self.sure_now())

    def lacking_now(self, table):
        """The least number of further tests that judge the table in any case."""
        return lacking(self.bench_now(), self.rule_now(), self.log_now(), table)
