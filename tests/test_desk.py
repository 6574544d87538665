"""Points 91 and 92: events as lines of text and back, and the desk."""

import random

from stubbornest.benchtexts import chart_line
from stubbornest.desk import desk
from stubbornest.errors import InvalidRow, InvalidText, NotUsable
from stubbornest.eventreadings import read_event
from stubbornest.eventtexts import event_line
from stubbornest.live import LiveBench
from stubbornest.liveevents import is_event
from stubbornest.replaying import replayed
from stubbornest.shapes import ladder, pick, ring
from tests.cases import Case
from tests.samples import DIAL_MIXED, HUGE, LOOSE, MIX, NONE, ODD, ONE_LEVEL, PAIRS, PICK, SWITCH, SWITCH_DOWN, TWO, WARN
from tests.test_benchtexts import CHART_FAULTS, CHART_ROWS
from tests.test_events import NO_EVENTS, some_event
from tests.test_live import STARTS, is_small
from tests.worlds import WORDS

# Event and line.
LINES = (
    (("test", (0, 2), 1), "test 0.2 1"), (("test", (), 0), "test - 0"), (("test", (7,), 10), "test 7 10"),
    (("test", (10, 0, 63), 9), "test 10.0.63 9"), (("come", SWITCH, 1), "come -;0/0,1 1"), (("come", ONE_LEVEL, 0), "come -/0 0"),
    (("come", PICK, 99), "come -;0;0;0;1,2,3/0,1,4;2;3 99"), (("go", 0, 0), "go 0 0"), (("go", 12, 30), "go 12 30"),
    (("rule", "all", 0), "rule all 0"), (("rule", "each", 10), "rule each 10"), (("rule", "low", 2), "rule low 2"),
    (("rule", "yes", 1), "rule yes 1"), (("range", 0, 0), "range 0 0"), (("range", 3, 2), "range 3 2"),
    (("go", HUGE, HUGE), "go " + "9" * 120 + " " + "9" * 120), (("range", HUGE, 0), "range " + "9" * 120 + " 0"),
    (("test", (HUGE,) * 25, HUGE), "test " + ".".join(["9" * 120] * 25) + " " + "9" * 120),
    (("rule", "each", HUGE), "rule each " + "9" * 120), (("come", SWITCH, HUGE), "come -;0/0,1 " + "9" * 120),
    (("test", (0,) * 60, 1), "test 0" + ".0" * 59 + " 1"),
)

# Text and field of InvalidText.
FAULTS = (
    ("", 0), (" ", 0), ("x", 0), ("Test 0.1 1", 0), ("tests 0.1 1", 0), (" test 0.1 1", 0), ("next", 0), ("undo 0 0", 0), ("0.1 1", 0),
    ("test", 1), ("come", 1), ("go", 1), ("rule", 1), ("range", 1), ("test ", 1), ("go ", 1), ("rule ", 1), ("come ", 1),
    ("test  0.1 1", 1), ("test 0.1", 2), ("go 0", 2), ("rule all", 2), ("range 0", 2), ("come -/0", 2), ("test 0.1 ", 2),
    ("test 0.1 1 ", 3), ("test 0.1 1 1", 3), ("go 0 0 0", 3), ("rule all 1 x", 3), ("come -/0 0 0", 3), ("range 0 1  ", 3),
    ("test 0,1 1", 1), ("test 0.01 1", 1), ("test 00 1", 1), ("test 0. 1", 1), ("test .0 1", 1), ("test 0..1 1", 1),
    ("test -.0 1", 1), ("test 0.- 1", 1), ("test -- 1", 1), ("test -1 1", 1), ("test +1 1", 1), ("test x 1", 1), ("test () 1", 1),
    ("test 0.1 01", 2), ("test 0.1 -1", 2), ("test 0.1 -", 2), ("test 0.1 1.0", 2), ("test 0.1 x", 2), ("test 0.1  1", 2),
    ("go 01 0", 1), ("go - 0", 1), ("go 0 00", 2), ("go x y", 1), ("go 0 y z", 2), ("range 0.1 1", 1), ("range 0 +1", 2),
    ("rule All 1", 1), ("rule none 1", 1), ("rule all 1.", 2), ("rule  1", 1), ("rule 1 all", 1), ("rule each -1", 2),
    ("test 0.1 1\n", 2), ("test\n0.1 1", 0), ("test 0.1\n1", 1), ("go 0 0\ngo 0 0", 2),
    ("test 1_0 1", 1), ("go 1_0 1", 1), ("test 0.1 1_0", 2), ("come -/0 -", 2), ("come -/0 0.0", 2),
)


class Lines(Case):
    def test_examples(self):
        self.same((event_line(("come", SWITCH, 1)), event_line(("test", (0, 2), 1))), ("come -;0/0,1 1", "test 0.2 1"))
        self.fails(InvalidText, {"line": 0, "field": 2}, read_event, "test 0.1")

    def test_there_and_back(self):
        for event, line in LINES:
            self.same(event_line(event), line)
            self.same(event_line(event=event), line)
            self.same(read_event(line), event)
            self.same(read_event(text=line), event)

    def test_charts(self):
        for chart in (SWITCH_DOWN, DIAL_MIXED, LOOSE, PAIRS, ring(31), pick(62), ladder(64)):
            line = "come " + chart_line(chart) + " 3"
            self.same(event_line(("come", chart, 3)), line)
            self.same(read_event(line), ("come", chart, 3))

    def test_random_events(self):
        rng = random.Random(107)
        for bench, _ in STARTS * 10:
            event = some_event(rng, bench)
            if event[1] != "none":
                self.same(read_event(event_line(event)), event)

    def test_events_without_a_line(self):
        for event in NO_EVENTS + tuple(("rule", word, 1) for word in ("none", "", "All", "all ", "test")):
            self.fails(NotUsable, {"word": "event", "at": -1}, event_line, event)
            self.fails(NotUsable, {"word": "event", "at": -1}, event_line, event=event)

    def test_faults(self):
        for text, field in FAULTS:
            self.fails(InvalidText, {"line": 0, "field": field}, read_event, text)
            self.fails(InvalidText, {"line": 0, "field": field}, read_event, text=text)

    def test_charts_that_cannot_stand(self):
        for text, _ in CHART_FAULTS:
            if " " not in text:
                self.fails(InvalidText, {"line": 0, "field": 1}, read_event, "come " + text + " 0")
                self.fails(InvalidText, {"line": 0, "field": 1}, read_event, "come " + text)

    def test_charts_that_are_none(self):
        for text, row in CHART_ROWS:
            if len(text) < 100:
                self.fails(InvalidRow, {"row": ("come", row, 7)}, read_event, "come " + text + " 7")
                # What cannot stand is told first.
                self.fails(InvalidText, {"line": 0, "field": 2}, read_event, "come " + text + " x")
                self.fails(InvalidText, {"line": 0, "field": 2}, read_event, "come " + text)
                self.fails(InvalidText, {"line": 0, "field": 3}, read_event, "come " + text + " 7 7")

    def test_lines_bent_by_one_sign(self):
        rng = random.Random(108)
        for event, line in LINES[:15]:
            for _ in range(60):
                at = rng.randrange(len(line) + 1)
                sign = rng.choice("0123456789.,;/:- +-_xt")
                text = rng.choice((line[:at] + sign + line[at:], line[:at] + sign + line[at + 1:], line[:at] + line[at + 1:]))
                try:
                    found = read_event(text)
                except (InvalidText, InvalidRow):
                    continue
                # Whatever is read is written so and not otherwise.
                self.same((is_event(found), event_line(found)), (True, text))

    def test_no_text(self):
        for text in (None, True, 0, (), [], ("go 0 0",), ["go 0 0"]):
            self.fails(NotUsable, {"word": "text", "at": -1}, read_event, text)
            self.fails(NotUsable, {"word": "text", "at": -1}, read_event, text=text)


class Desk(Case):
    def test_example(self):
        told = desk(LiveBench(TWO, ("all", 0)), "test 0.1 1\nnext\nsure\ntest 0.0 2\nundo\nshown")
        self.same(told, ("done", "1.0", "0.1:1 1.1:1", "barred grade", "test 0.1 1", "none"))

    def test_each_word(self):
        live = LiveBench(MIX, ("yes", 1))
        self.same(desk(live, "next\nsure\nspan\nshown\nundo"), ("1.1", "none", "6 7", "none", "none"))
        self.same(desk(text="test 1.1 1\nsure\nnext", live=live), ("done", "1.1:1 2.1:1", "0.1"))
        self.same(desk(live, "come -;0/0,1 1\nspan\nundo\nundo\nundo"), ("done", "11 14", "come -;0/0,1 1", "test 1.1 1", "none"))
        self.same((len(live), live == LiveBench(MIX, ("yes", 1))), (0, True))
        live = LiveBench(NONE, ("low", 1))
        self.same(desk(live, "next\ntest - 1\nnext\nshown\nsure\nundo"), ("-", "done", "none", "1", "-:1", "test - 1"))
        live = LiveBench(WARN, ("each", 0))
        told = desk(live, "test 0.1 1\ntest 1.0 2\ntest 0.0 0\nshown\nnext\nsure")
        self.same(told, ("done", "done", "done", "0 1 2 2", "none", "0.0:0 0.1:1 1.0:2 1.1:2"))

    def test_each_event_and_each_reason(self):
        live = LiveBench(MIX, ("all", 0))
        rows = (
            ("test 0.1 0", "done"), ("test 0.2 0", "barred point"), ("test - 0", "barred point"), ("test 0.1 2", "barred grade"),
            ("test 0.0 1", "barred fits"), ("rule yes 0", "done"), ("rule low 1", "done"), ("go 2 0", "barred slot"),
            ("go 0 3", "barred level"), ("come -/0 1", "barred level"), ("come -/0 0", "done"), ("range 1 3", "done"),
            ("range 0 4", "barred range"), ("range 3 2", "barred range"), ("go 2 0", "done"), ("go 0 0", "done"),
            ("undo", "go 0 0"), ("undo", "go 2 0"), ("undo", "range 1 3"), ("undo", "come -/0 0"),
        )
        self.same(desk(live, "\n".join(row for row, _ in rows)), tuple(told for _, told in rows))
        self.same(live.diary(), (("test", (0, 1), 0), ("rule", "yes", 0), ("rule", "low", 1)))
        live = LiveBench(WARN, ("all", 1))
        self.same(desk(live, "rule yes 1"), ("barred rule",))

    def test_all_rows_are_read_first(self):
        for row, field in FAULTS:
            if "\n" not in row and row not in ("next", "undo 0 0"):
                for ahead in ((), ("test 0.1 1", "undo", "next")):
                    live = LiveBench(TWO, ("all", 0))
                    text = "\n".join(ahead + (row, "go x"))
                    self.fails(InvalidText, {"line": len(ahead), "field": field}, desk, live, text)
                    self.fails(InvalidText, {"line": len(ahead), "field": field}, desk, text=text, live=live)
                    self.same((len(live), live.log_now()), (0, ()))
        for word in ("next", "sure", "span", "shown", "undo"):
            for row in (word + " ", word + " 1", word + "  x"):
                live = replayed(TWO, ("all", 0), (("test", (0, 1), 1),))
                self.fails(InvalidText, {"line": 1, "field": 1}, desk, live, "undo\n" + row + "\nx")
                self.same(len(live), 1)
            for row in (" " + word, word.upper(), word + "x", word[:-1]):
                self.fails(InvalidText, {"line": 0, "field": 0}, desk, LiveBench(TWO, ("all", 0)), row)

    def test_rows_that_are_no_events(self):
        for text, row in CHART_ROWS:
            if len(text) < 100:
                live = LiveBench(TWO, ("all", 0))
                rows = "test 0.1 1\ncome " + text + " 7\nx"
                self.fails(InvalidRow, {"row": ("come", row, 7)}, desk, live, rows)
                self.same(len(live), 0)

    def test_empty_rows(self):
        for text, line in (("", 0), ("\n", 0), ("next\n", 1), ("\nnext", 0), ("next\n\nnext", 1)):
            self.fails(InvalidText, {"line": line, "field": 0}, desk, LiveBench(TWO, ("all", 0)), text)

    def test_by_the_methods(self):
        rng = random.Random(109)
        for bench, rule in STARTS * 3:
            one, other = LiveBench(bench, rule), LiveBench(bench, rule)
            for _ in range(3):
                rows, told = [], []
                for _ in range(8):
                    row, answer = self.row(rng, other)
                    rows.append(row)
                    told.append(answer)
                self.same(desk(one, "\n".join(rows)), tuple(told))
                self.same(one == other, True)
                self.same((one.bench_now(), one.rule_now(), one.log_now()), (other.bench_now(), other.rule_now(), other.log_now()))

    def row(self, rng, live):
        """A row, carried out by the methods, and what the desk should tell."""
        word = rng.choice(("next", "sure", "span", "shown", "undo") + ("event",) * 5)
        if word == "event":
            event = some_event(rng, live.bench_now())
            while event[1] == "none" or (live.barred(event) is None and not is_small(live.tried(event)[0])):
                event = some_event(rng, live.bench_now())
            reason = live.barred(event)
            if reason is None:
                live.do(event)
            return event_line(event), "done" if reason is None else "barred " + reason
        if word == "undo":
            return word, event_line(live.undo()) if len(live) else "none"
        dotted = lambda point: ".".join(map(str, point)) or "-"
        told = {
            "next": lambda: None if live.next_now() is None else dotted(live.next_now()),
            "sure": lambda: " ".join(f"{dotted(point)}:{grade}" for point, grade in live.sure_now()) or None,
            "span": lambda: " ".join(map(str, live.span_now())),
            "shown": lambda: None if live.shown_now() is None else " ".join(map(str, live.shown_now())),
        }[word]()
        return word, "none" if told is None else told

    def test_two_hundred_rows(self):
        live = LiveBench(TWO, ("all", 9))
        self.same(desk(live, "\n".join(["test 0.1 1", "undo"] * 100)), ("done", "test 0.1 1") * 100)
        self.same(len(live), 0)
        self.same(desk(live, "\n".join(["test 0.1 1"] * 200)), ("done",) * 200)
        self.same(len(live), 200)

    def test_refusals(self):
        live = LiveBench(TWO, ("all", 0))
        for thing in ODD + (TWO, (TWO, ("all", 0)), {}):
            self.fails(NotUsable, {"word": "live", "at": -1}, desk, thing, "next")
            self.fails(NotUsable, {"word": "live", "at": -1}, desk, text=None, live=thing)
            if not isinstance(thing, str):
                self.fails(NotUsable, {"word": "text", "at": -1}, desk, live, thing)
                self.fails(NotUsable, {"word": "text", "at": -1}, desk, text=thing, live=live)
        self.same(WORDS, ("all", "each", "low", "yes"))
