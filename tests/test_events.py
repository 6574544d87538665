"""Points 83 and 84: events, diaries, and what an event makes of a bench and a log."""

import random

from stubbornest.changes import cut_to, face_of, grown
from stubbornest.edits import bench_after, log_after
from stubbornest.errors import InvalidEvent, NotUsable
from stubbornest.liveevents import is_diary, is_event
from stubbornest.logkinds import is_log
from stubbornest.shapes import flat, ladder
from tests import oracle
from tests.cases import Case
from tests.samples import (
    DIAL, DIAL_MIXED, LOOSE, MIX, NONE, NO_NUMBERS, ODD, ONE_LEVEL, PICK, SWITCH, SWITCH_DOWN, TWO, WARN,
)
from tests.test_logs import NO_LOGS
from tests.worlds import WORLDS

EVENTS = (
    ("test", (0, 1), 1), ("test", (), 0), ("test", (7, 7, 7), 10 ** 59), ("come", SWITCH, 1), ("come", PICK, 10 ** 59),
    ("go", 0, 0), ("go", 10 ** 59, 7), ("rule", "all", 1), ("rule", "", 0), ("rule", "no such word", 10 ** 59), ("range", 0, 0),
    ("range", 5, 3),
)
NO_EVENTS = ODD + (
    ("test", (0, 1)), ("test", (0, 1), 1, 1), ["test", (0, 1), 1], ("test", [0, 1], 1), ("test", (0, True), 1), ("test", (0, -1), 1),
    ("test", (0, 1), True), ("test", (0, 1), -1), ("test", (0, 1), "1"), ("test", (0, 1), None), ("test", 0, 1), ("test", "01", 1),
    ("test", None, 0), ("test", ((0, 1),), 1), ("Test", (0, 1), 1), ("tests", (0, 1), 1), ((0, 1), "test", 1), (None, (0, 1), 1),
    ("come", SWITCH, True), ("come", SWITCH, -1), ("come", (((), (0,)), ((0,), (1,))), 0), ("come", 0, 0), ("come", "-/0", 0),
    ("come", SWITCH), ("come", list(SWITCH), 0), ("come", None, 0), ("come", (), 0),
    ("go", True, 0), ("go", 0, False), ("go", -1, 0), ("go", 0, -1), ("go", "0", 0), ("go", (0,), 0), ("go", 0), ("go", 0, 0, 0),
    ("rule", 1, "all"), ("rule", "all"), ("rule", "all", True), ("rule", "all", -1), ("rule", None, 1), ("rule", ("all", 1), 1),
    ("rule", ("all",), 1), ("range", 0), ("range", True, 1), ("range", 0, False), ("range", -1, 0), ("range", 0, "1"), ("range",),
    (["test"], (0, 1), 1), (("test",), (0, 1), 1), ("", 0, 0), ("next", 0, 0), ("undo", 0, 0),
)

# For MIX, a dial and a switch: event and reason.
BARRED = (
    (("test", (0, 2), 1), "point"), (("test", (0,), 1), "point"), (("test", (), 1), "point"), (("test", (3, 0), 0), "point"),
    (("test", (0, 1), 2), "grade"), (("test", (0, 1), 10 ** 59), "grade"),
    (("go", 2, 0), "slot"), (("go", 10 ** 59, 0), "slot"), (("go", 0, 3), "level"), (("go", 1, 2), "level"),
    (("come", SWITCH, 2), "level"), (("come", ONE_LEVEL, 1), "level"), (("come", PICK, 5), "level"),
    (("rule", "none", 1), "rule"), (("rule", "", 0), "rule"), (("rule", "All", 0), "rule"),
    (("range", 0, 4), "range"), (("range", 2, 1), "range"), (("range", 4, 3), "range"), (("range", 4, 4), "range"),
    # Several at once: the first one is told.
    (("test", (0, 2), 2), "point"), (("go", 2, 9), "slot"), (("range", 5, 4), "range"), (("test", (0, 2), -1), "form"),
    (("go", 2, -1), "form"), (("come", SWITCH, -1), "form"), (("rule", "none", -1), "form"), (("range", 5, -1), "form"),
)


class Kinds(Case):
    def test_events(self):
        for thing in EVENTS:
            self.same(is_event(thing), True, thing)
            self.same(is_event(thing=thing), True)
        for thing in NO_EVENTS:
            self.same(is_event(thing), False, thing)
            self.same(is_event(thing=thing), False, thing)
        for thing in NO_NUMBERS:
            for word, value in (("test", (0, 1)), ("come", SWITCH), ("go", 0), ("rule", "all"), ("range", 0)):
                self.same(is_event((word, value, thing)), False)
            for word in ("go", "range"):
                self.same(is_event((word, thing, 0)), False)

    def test_diaries(self):
        for thing in ((), EVENTS, EVENTS[:1], EVENTS * 16):
            self.same(is_diary(thing), True)
            self.same(is_diary(thing=thing), True)
        for thing in NO_EVENTS:
            self.same(is_diary((thing,)), False, thing)
            self.same(is_diary(thing=EVENTS + (thing,)), False, thing)
        for thing in [thing for thing in ODD if thing != ()] + [list(EVENTS), EVENTS[0], "test", {}]:
            self.same(is_diary(thing), False, thing)


def some_event(rng, bench):
    """An event that may or may not be barred."""
    charts, low, high, top = bench
    word = rng.choice(("test", "test", "come", "go", "rule", "range"))
    tall = oracle.height(bench)
    if word == "test":
        return word, rng.choice(oracle.points(bench)), rng.randint(0, top + (rng.random() < 0.1))
    if word == "come":
        chart = rng.choice((SWITCH, SWITCH_DOWN, DIAL_MIXED, ONE_LEVEL, flat(2), LOOSE, ladder(4)))
        return word, chart, rng.randrange(len(chart[0]) + 1)
    if word == "go":
        return word, rng.randint(0, len(charts)), rng.randint(0, 3)
    if word == "rule":
        return word, rng.choice(("all", "each", "low", "yes", "none")), rng.randint(0, 3)
    return word, rng.randint(0, tall), rng.randint(0, tall + 1)


def reason_by_words(bench, event):
    """The reason for which the bench bars one of some_event's."""
    charts, low, high, top = bench
    word, one, other = event
    if word == "test":
        return ("grade" if other > top else None) if one in oracle.points(bench) else "point"
    if word == "come":
        return None if other < len(one[0]) else "level"
    if word == "go":
        if one >= len(charts):
            return "slot"
        return None if [point for point in oracle.points(bench) if point[one] == other] else "level"
    if word == "rule":
        return None if one in ("all", "each", "low") or (one == "yes" and top == 1) else "rule"
    return None if one <= other <= oracle.height(bench) else "range"


def behind_by_words(bench, log, event):
    """The pair (bench, log) behind an event that is not barred."""
    charts, low, high, top = bench
    word, one, other = event
    if word == "test":
        return bench, log + ((one, other),)
    if word == "come":
        return grown(bench, one), tuple((point + (other,), grade) for point, grade in log)
    if word == "go":
        kept = [(point, grade) for point, grade in log if point[one] == other]
        return face_of(bench, one, other), tuple((point[:one] + point[one + 1:], grade) for point, grade in kept)
    if word == "range":
        then = cut_to(bench, one, other)
        return then, tuple(answer for answer in log if answer[0] in oracle.points(then))
    return bench, log


class Edits(Case):
    def test_example(self):
        found = log_after(MIX, (((1, 1), 1), ((0, 1), 1), ((1, 0), 0)), ("go", 0, 1))
        self.same(found, (((1,), 1), ((0,), 0)))

    def test_each_event(self):
        rng = random.Random(102)
        barred = 0
        for world in WORLDS:
            bench = world.bench
            for _ in range(12):
                log, event = world.some_log(rng, rng.randint(0, 6)), some_event(rng, bench)
                reason = reason_by_words(bench, event)
                self.same(is_event(event), True)
                if reason is None:
                    wanted = behind_by_words(bench, log, event)
                    self.same((bench_after(bench, event), log_after(bench, log, event)), wanted, bench, event)
                    self.same((bench_after(event=event, bench=bench), log_after(event=event, log=log, bench=bench)), wanted)
                    self.same(is_log(*wanted), True)
                else:
                    barred += 1
                    self.fails(InvalidEvent, {"event": event, "reason": reason}, bench_after, bench, event)
                    self.fails(InvalidEvent, {"event": event, "reason": reason}, log_after, bench, log, event)
        self.assertGreater(barred, 50)

    def test_each_reason(self):
        for event, reason in BARRED:
            fields = {"event": event, "reason": reason}
            self.fails(InvalidEvent, fields, bench_after, MIX, event)
            self.fails(InvalidEvent, fields, bench_after, event=event, bench=MIX)
            self.fails(InvalidEvent, fields, log_after, MIX, (((0, 1), 1),), event)
            self.fails(InvalidEvent, fields, log_after, event=event, log=(), bench=MIX)
        for event in NO_EVENTS:
            error = self.raised(bench_after, MIX, event)
            self.same((error.__class__, error.reason, error.event is event), (InvalidEvent, "form", True))
            error = self.raised(log_after, MIX, (), event)
            self.same((error.__class__, error.reason, error.event is event), (InvalidEvent, "form", True))
        # Three grades: no "yes".
        event = ("rule", "yes", 0)
        self.fails(InvalidEvent, {"event": event, "reason": "rule"}, bench_after, WARN, event)
        self.same(bench_after(TWO, event), TWO)

    def test_a_level_without_points(self):
        cut = ((DIAL, SWITCH), 0, 0, 1)
        event = ("go", 1, 1)
        self.fails(InvalidEvent, {"event": event, "reason": "level"}, bench_after, cut, event)
        self.same(bench_after(cut, ("go", 1, 0)), ((DIAL,), 0, 0, 1))

    def test_a_log_that_is_none_is_refused_first(self):
        for log in NO_LOGS:
            for event in (("test", (0, 1), 1), ("go", 9, 9), None):
                self.fails(NotUsable, {"word": "log", "at": -1}, log_after, WARN, log, event)
                self.fails(NotUsable, {"word": "log", "at": -1}, log_after, event=event, log=log, bench=WARN)

    def test_the_sequence_stays(self):
        log = (((2, 1), 1), ((0, 0), 0), ((2, 1), 0), ((1, 1), 1), ((0, 0), 1))
        self.same(log_after(MIX, log, ("range", 1, 3)), (((2, 1), 1), ((2, 1), 0), ((1, 1), 1)))
        self.same(log_after(MIX, log, ("range", 0, 3)), log)
        self.same(log_after(MIX, log, ("rule", "low", 3)), log)
        self.same(log_after(MIX, log, ("test", (0, 0), 0)), log + (((0, 0), 0),))
        self.same(log_after(MIX, log, ("go", 1, 1)), (((2,), 1), ((2,), 0), ((1,), 1)))
        self.same(log_after(MIX, log, ("come", SWITCH, 1))[:2], (((2, 1, 1), 1), ((0, 0, 1), 0)))

    def test_two_hundred_answers(self):
        log = (((0, 1), 1), ((1, 1), 0)) * 100
        self.same(log_after(TWO, log, ("go", 0, 0)), (((1,), 1),) * 100)
        self.same(log_after(TWO, log, ("range", 2, 2)), (((1, 1), 0),) * 100)

    def test_no_slots_other_levels(self):
        self.same(bench_after(NONE, ("come", SWITCH_DOWN, 1)), ((SWITCH_DOWN,), 0, 1, 1))
        self.same(log_after(NONE, (((), 1),), ("come", SWITCH_DOWN, 1)), (((1,), 1),))
        self.same(bench_after(((SWITCH_DOWN,), 0, 0, 2), ("go", 0, 1)), ((), 0, 0, 2))
        event = ("go", 0, 0)
        self.fails(InvalidEvent, {"event": event, "reason": "slot"}, bench_after, NONE, event)
        self.fails(InvalidEvent, {"event": event, "reason": "level"}, bench_after, ((SWITCH_DOWN,), 0, 0, 2), event)
        self.same(bench_after(NONE, ("range", 0, 0)), NONE)
