"""Points 85 to 90: live benches, replayed diaries, what-ifs."""

import functools
import random

from stubbornest.errors import InvalidEvent, LiveError, NothingToUndo, NotUsable
from stubbornest.finderclasses import Finder
from stubbornest.fixed import fixed_number
from stubbornest.lackings import lacking
from stubbornest.live import LiveBench
from stubbornest.prices import price_span
from stubbornest.replaying import replayed
from stubbornest.shapes import ladder
from stubbornest.whatifs import span_after
from tests import oracle
from tests.cases import Case
from tests.samples import DIAL, MIX, NONE, ODD, ONE_LEVEL, SWITCH, SWITCH_DOWN, TWO, WARN
from tests.test_events import BARRED, NO_EVENTS, behind_by_words, reason_by_words, some_event
from tests.test_prices import NO_RULES
from tests.test_tables import NO_TABLES
from tests.worlds import World

ALL = ("all", 1)
STARTS = (
    (NONE, ALL), (((), 0, 0, 3), ("low", 1)), (TWO, ALL), (TWO, ("yes", 1)), (TWO, ("each", 0)), (WARN, ("low", 1)), (MIX, ("low", 0)),
    (((SWITCH_DOWN,), 0, 1, 2), ("each", 1)), (((DIAL, SWITCH), 1, 2, 1), ("yes", 0)), (((ONE_LEVEL,), 0, 0, 1), ("all", 0)),
    (((DIAL, SWITCH), 1, 1, 2), ("all", 2)), (((ladder(4),), 0, 3, 1), ALL),
)


@functools.cache
def world_of(bench):
    return World(bench)


def is_small(bench):
    """Whether all tables are quickly gone through."""
    many = len(oracle.points(bench))
    return len(oracle.full_points(bench)) <= 40 and many <= 10 and (bench[3] + 1) ** many <= 1100


class Account:
    """What a LiveBench should be: the states behind each event, and the diary."""

    def __init__(self, bench, rule):
        self.states = [(bench, rule, ())]
        self.diary = ()

    def behind(self, event):
        """The pair (reason, state behind the event)."""
        bench, rule, log = self.states[-1]
        reason = reason_by_words(bench, event)
        if reason is not None:
            return reason, None
        bench, log = behind_by_words(bench, log, event)
        rule = event[1:] if event[0] == "rule" else rule
        if not world_of(bench).fitting(rule, log):
            return "fits", None
        return None, (bench, rule, log)

    def do(self, event, state):
        self.states.append(state)
        self.diary += (event,)

    def undo(self):
        self.states.pop()
        event, self.diary = self.diary[-1], self.diary[:-1]
        return event


def stays_small(account, event):
    bench, rule, log = account.states[-1]
    return reason_by_words(bench, event) is not None or is_small(behind_by_words(bench, log, event)[0])


class Live(Case):
    def check(self, live, account):
        """All that the live bench tells of itself, by the account."""
        bench, rule, log = account.states[-1]
        world = world_of(bench)
        self.same((live.bench_now(), live.rule_now(), live.log_now(), live.diary()), (bench, rule, log, account.diary))
        self.same((len(live), list(live)), (len(account.diary), list(account.diary)))
        words = [event[0] for event in account.diary]
        self.same(live.tally(), tuple(words.count(word) for word in ("test", "come", "go", "rule", "range")))
        tables = world.fitting(rule, log)
        possible = world.possible(tables)
        self.same([live.possible_now(point) for point in world.points], possible)
        self.same(live.possible_now(point=world.points[-1]) != (), True)
        pairs = tuple(zip(world.points, possible))
        sure = tuple((point, row[0]) for point, row in pairs if len(row) == 1)
        self.same(live.sure_now(), sure)
        shown = tables[0] if len(tables) == 1 else None
        self.same(live.shown_now(), shown)
        self.same(live.next_now(), world.next_test(sure, world.upper_first(rule)))
        self.same(live.next_now() is None, shown is not None)
        self.same(live.span_now(), world.span(rule))
        for point in world.points:
            if len([1 for other, _ in log if other == point]) >= fixed_number(rule):
                self.same(point in dict(sure), True)
        for table in (tables[0], tables[-1]):
            wrong = world.wrong(log, table)
            if wrong:
                self.fails(NotUsable, {"word": "log", "at": wrong[0]}, live.lacking_now, table)
            else:
                self.same(live.lacking_now(table), lacking(bench, rule, log, table))
                self.same(live.lacking_now(table=table) == 0, shown is not None)

    def compare(self, event, ahead, behind):
        """What the page says of the possible grades and the span ahead of an event and behind it."""
        bench, rule, log = ahead
        then = behind[0]
        old = dict(zip(world_of(bench).points, world_of(bench).possible(world_of(bench).fitting(rule, log))))
        new = dict(zip(world_of(then).points, world_of(then).possible(world_of(then).fitting(*behind[1:]))))
        word, one, other = event
        if word == "come":
            self.same([new[point + (other,)] for point in old], list(old.values()))
            self.same(all(less <= more for less, more in zip(price_span(bench, rule), price_span(then, rule))), True)
        elif word == "range" and one <= bench[1] and other >= bench[2]:
            self.same([new[point] for point in old], list(old.values()))
        elif word == "test":
            self.same(all(set(new[point]) <= set(old[point]) for point in new), True)
        elif word == "go":
            for point, row in old.items():
                if point[one] == other:
                    self.same(set(row) <= set(new[point[:one] + point[one + 1:]]), True)
        elif word == "range" or (event[1] == rule[0] and other >= rule[1]):
            self.same(all(set(old[point]) <= set(new[point]) for point in new if point in old), True)

    def led(self, rng, live, event):
        """Does the event in one of the ways there are."""
        word, one, other = event
        way = rng.randrange(4)
        if way == 0:
            return live.do(event)
        if way == 1:
            return live.do_all((event,), rng.random() < 0.5)
        if way == 2:
            names = {
                "test": ("point", "grade"), "come": ("chart", "level"), "go": ("slot", "level"), "rule": ("word", "e"),
                "range": ("low", "high"),
            }[word]
            return self.method(live, word)(**{names[1]: other, names[0]: one})
        return self.method(live, word)(one, other)

    def method(self, live, word):
        return {"test": live.test, "come": live.come, "go": live.go, "rule": live.set_rule, "range": live.set_range}[word]

    def test_examples(self):
        live = LiveBench(TWO, ("all", 0))
        self.same(live.test((0, 1), 1), None)
        self.fails(InvalidEvent, {"event": ("test", (1, 1), 0), "reason": "fits"}, live.test, (1, 1), 0)
        self.same(live.come(SWITCH, 0), None)
        sure = (((0, 1, 0), 1), ((0, 1, 1), 1), ((1, 1, 0), 1), ((1, 1, 1), 1))
        self.same((live.log_now(), live.sure_now()), ((((0, 1, 0), 1),), sure))
        self.same((live.next_now(), live.span_now()), ((1, 0, 1), (6, 6)))

    def test_led_by_events(self):
        rng = random.Random(103)
        reasons = []
        for bench, rule in STARTS * 8:
            live, account = LiveBench(rule=rule, bench=bench), Account(bench, rule)
            self.check(live, account)
            for _ in range(14):
                event = some_event(rng, account.states[-1][0])
                if stays_small(account, event):
                    reasons.append(self.step(rng, live, account, event))
                if account.diary and rng.random() < 0.15:
                    self.same(live.undo(), account.undo())
                    self.check(live, account)
            while account.diary:
                self.same(live.undo(), account.undo())
                self.same(live.log_now(), account.states[-1][2])
            self.check(live, account)
            self.fails(NothingToUndo, {"steps": 0}, live.undo)
            self.same(live == LiveBench(bench, rule), True)
        # Every reason but "form" came, and many events were done.
        self.same(sorted(set(map(str, reasons))), ["None", "fits", "grade", "level", "range", "rule", "slot"])
        self.assertGreater(reasons.count(None), 100)

    def step(self, rng, live, account, event):
        """One event; the reason for which it is barred."""
        reason, state = account.behind(event)
        self.same((live.barred(event), live.barred(event=event)), (reason, reason), event)
        if reason is None:
            self.same(live.tried(event), (state[0], state[2]))
            self.same(live.tried(event=event), (state[0], state[2]))
            ahead = account.states[-1]
            self.same(live.diary(), account.diary)
            self.same(self.led(rng, live, event), None)
            account.do(event, state)
            self.compare(event, ahead, state)
        else:
            fields = {"event": event, "reason": reason}
            self.fails(InvalidEvent, fields, live.tried, event)
            self.fails(InvalidEvent, fields, self.led, rng, live, event)
            # Only a test and a rule are ever barred for want of a table.
            self.same(reason != "fits" or event[0] in ("test", "rule"), True)
        self.check(live, account)
        return reason

    def test_barred_events(self):
        for event, reason in BARRED:
            live = LiveBench(MIX, ("low", 0))
            live.test((0, 1), 0)
            fields = {"event": event, "reason": reason}
            for call in (live.do, live.tried):
                self.fails(InvalidEvent, fields, call, event)
                self.fails(InvalidEvent, fields, call, event=event)
            self.fails(InvalidEvent, fields, self.method(live, event[0]), *event[1:])
            self.same(live.barred(event), reason)
            self.same((live.diary(), live.log_now(), live.bench_now()), ((("test", (0, 1), 0),), (((0, 1), 0),), MIX))
        for event in NO_EVENTS:
            live = LiveBench(TWO, ALL)
            for call in (live.do, live.tried):
                error = self.raised(call, event)
                self.same((error.__class__, error.reason, error.event is event), (InvalidEvent, "form", True))
                self.assertIsInstance(error, LiveError)
            self.same((live.barred(event), len(live)), ("form", 0))

    def test_methods_take_any_values(self):
        live = LiveBench(TWO, ALL)
        for thing in ODD:
            for word, call in (("test", live.test), ("come", live.come), ("go", live.go), ("range", live.set_range)):
                if thing != 10 ** 60 - 1:
                    self.fails(InvalidEvent, {"event": (word, thing, thing), "reason": "form"}, call, thing, thing)
            if not isinstance(thing, str):
                self.fails(InvalidEvent, {"event": ("rule", thing, 1), "reason": "form"}, live.set_rule, thing, 1)
            if thing not in (0, 1, 10 ** 60 - 1) or isinstance(thing, bool):
                self.fails(InvalidEvent, {"event": ("rule", "all", thing), "reason": "form"}, live.set_rule, "all", thing)
        self.same(len(live), 0)

    def test_fits(self):
        live = LiveBench(TWO, ("yes", 1))
        live.do_all((("test", (0, 1), 0), ("test", (1, 0), 0)))
        # Two answers 0 can not be wrong, one can.
        event = ("test", (0, 0), 1)
        self.same((live.barred(event), live.barred(("test", (1, 0), 1)), live.barred(("test", (1, 1), 1))), ("fits", None, None))
        live.test((1, 0), 1)
        self.same([live.barred(("rule", word, e)) for word in ("all", "each", "low", "yes") for e in (0, 1)], ["fits", None] * 4)
        live.set_rule("each", 1)
        self.same((live.rule_now(), live.barred(event)), (("each", 1), None))
        live.undo()
        self.same((live.rule_now(), live.barred(event)), (("yes", 1), "fits"))

    def test_do_all(self):
        good = (("test", (0, 1), 1), ("come", SWITCH, 0), ("rule", "low", 2))
        for bad in (("test", (0, 1), 1), None, "test", ("go", 0, 9), ("test", (0, 1, 1), True)):
            for keep, kept in ((False, 0), (True, 3)):
                live = LiveBench(TWO, ALL)
                live.test((0, 0), 0)
                error = self.raised(live.do_all, good + (bad,) + (("range", 0, 0),), keep)
                self.same((error.__class__, error.event is bad), (InvalidEvent, True))
                self.same(live.diary(), (("test", (0, 0), 0),) + good[:kept])
                other = LiveBench(TWO, ALL)
                other.do_all(live.diary())
                self.same((live == other, live.rule_now()), (True, ("low", 2) if keep else ALL))
                self.same((live.bench_now(), live.log_now()), (other.bench_now(), other.log_now()))
        live = LiveBench(TWO, ALL)
        self.same((live.do_all(good), live.do_all(events=()), live.do_all(keep=True, events=good[2:])), (None, None, None))
        self.same(live.diary(), good + good[2:])
        # Events behind the barred one are not looked at, and the one that does not keep is the default.
        live = LiveBench(TWO, ALL)
        self.raised(live.do_all, good + (None,))
        self.same(len(live), 0)

    def test_do_all_refuses_ahead_of_all_doing(self):
        event = ("test", (0, 1), 1)
        for events in (None, [event], "ab", 0, True, {}, LiveBench(TWO, ALL)):
            for keep in ((), (True,), (None,)):
                live = LiveBench(TWO, ALL)
                self.fails(NotUsable, {"word": "events", "at": -1}, live.do_all, events, *keep)
        for keep in (None, 0, 1, "", (), "True", [True]):
            live = LiveBench(TWO, ALL)
            self.fails(NotUsable, {"word": "keep", "at": -1}, live.do_all, (event, None), keep)
            self.fails(NotUsable, {"word": "keep", "at": -1}, live.do_all, keep=keep, events=(event,))
            self.same(len(live), 0)

    def test_only_tests_are_those_of_a_finder(self):
        rng = random.Random(104)
        for bench, rule in STARTS:
            table = rng.choice(world_of(bench).tables)
            live, finder = LiveBench(bench, rule), Finder(bench, rule)
            left = rule[1]
            while finder.next() is not None:
                point = finder.next()
                self.same(live.next_now(), point)
                grade = table[world_of(bench).at[point]]
                if left and rng.random() < 0.3 and rule[0] in ("all", "each"):
                    grade, left = rng.randint(0, bench[3]), left - 1
                live.test(point, grade)
                finder.tell(grade)
            self.same((live.next_now(), live.shown_now()), (None, finder.found()))

    def test_equal(self):
        some = [
            (TWO, ALL, ()), (TWO, ALL, (("test", (0, 1), 1),)), (TWO, ALL, (("test", (0, 1), 0),)), (TWO, ("all", 2), ()),
            (TWO, ("low", 1), ()), (WARN, ALL, ()), (TWO, ALL, (("rule", "all", 2),)), (WARN, ALL, (("test", (0, 1), 1),)),
            (TWO, ALL, (("range", 0, 2),)), (((SWITCH,), 0, 1, 1), ALL, ()), (((SWITCH,), 0, 1, 1), ALL, (("come", SWITCH, 0),)),
            (TWO, ALL, (("test", (0, 1), 1), ("test", (1, 0), 1))), (TWO, ALL, (("test", (1, 0), 1), ("test", (0, 1), 1))),
        ]
        for one in some:
            for other in some:
                told = replayed(*one) == replayed(*other)
                self.same((told, replayed(*one) != replayed(*other)), (one == other, one != other))
            live = replayed(*one)
            for thing in ODD + (one, live.diary(), list(live), one[0]):
                self.same((live == thing, live != thing, thing == live), (False, True, False))

    def test_any_value_in_it(self):
        live = replayed(TWO, ALL, (("test", (0, 1), 1), ("rule", "all", 1), ("come", SWITCH, 1)))
        for thing in live.diary():
            self.same(thing in live, True)
        for thing in ODD + (("test", (0, 1), True), ("test", (0, True), 1), ("rule", "all", True), ("come", SWITCH, 0), live, "test"):
            self.same(thing in live, False)

    def test_what_was_told_is_not_touched(self):
        live = replayed(TWO, ALL, (("test", (0, 1), 1),))
        diary, log, steps = live.diary(), live.log_now(), iter(live)
        live.test((1, 1), 1)
        self.same((diary, log, list(steps)), ((("test", (0, 1), 1),), (((0, 1), 1),), [("test", (0, 1), 1)]))

    def test_two_hundred_events(self):
        live = LiveBench(TWO, ("all", 9))
        for number in range(100):
            live.test((0, 1), int(number < 9))
            live.test((1, 1), 1)
        self.same((len(live), live.tally(), live.possible_now((0, 1))), (200, (200, 0, 0, 0, 0), (0,)))
        self.same(live.barred(("rule", "all", 8)), "fits")

    def test_refusals(self):
        for rule in NO_RULES:
            self.fails(NotUsable, {"word": "rule", "at": -1}, LiveBench, TWO, rule)
            self.fails(NotUsable, {"word": "rule", "at": -1}, LiveBench, rule=rule, bench=TWO)
        self.fails(NotUsable, {"word": "rule", "at": -1}, LiveBench, WARN, ("yes", 1))
        live = replayed(TWO, ALL, (("test", (0, 1), 1),))
        for point in ODD + ((0, 2), (0, True), [0, 1]):
            self.fails(NotUsable, {"word": "point", "at": -1}, live.possible_now, point)
            self.fails(NotUsable, {"word": "point", "at": -1}, live.possible_now, point=point)
        for table in NO_TABLES + ODD:
            self.fails(NotUsable, {"word": "table", "at": -1}, live.lacking_now, table)
            self.fails(NotUsable, {"word": "table", "at": -1}, live.lacking_now, table=table)
        self.fails(NotUsable, {"word": "log", "at": 0}, live.lacking_now, (0, 0, 0, 0))


class Replaying(Case):
    def test_diaries_of_live_benches(self):
        rng = random.Random(105)
        for bench, rule in STARTS * 2:
            live = LiveBench(bench, rule)
            for _ in range(12):
                event = some_event(rng, live.bench_now())
                if live.barred(event) is None and is_small(live.tried(event)[0]):
                    live.do(event)
            again = replayed(bench, rule, live.diary())
            self.same((again.__class__, again == live), (LiveBench, True))
            self.same(replayed(diary=live.diary(), rule=rule, bench=bench) == live, True)
            self.same(
                (again.bench_now(), again.rule_now(), again.log_now(), again.diary()),
                (live.bench_now(), live.rule_now(), live.log_now(), live.diary()),
            )

    def test_the_first_barred_event(self):
        good = ("test", (0, 1), 1)
        for bad, reason in ((("test", (0, 1), 2), "grade"), (("go", 2, 0), "slot"), (("test", (1, 1), 0), "fits")):
            for diary in ((bad,) if reason != "fits" else (good, bad), (good, bad, ("range", 9, 9))):
                self.fails(InvalidEvent, {"event": bad, "reason": reason}, replayed, TWO, ("all", 0), diary)
                self.fails(InvalidEvent, {"event": bad, "reason": reason}, replayed, diary=diary, rule=("all", 0), bench=TWO)

    def test_refusals(self):
        good = ("test", (0, 1), 2)
        for diary in [None, [good], (good, None), good, "", 0, True] + [(good, thing) for thing in NO_EVENTS]:
            self.fails(NotUsable, {"word": "diary", "at": -1}, replayed, TWO, ALL, diary)
            self.fails(NotUsable, {"word": "diary", "at": -1}, replayed, diary=diary, rule=ALL, bench=TWO)
        for rule in NO_RULES:
            self.fails(NotUsable, {"word": "rule", "at": -1}, replayed, TWO, rule, None)
            self.fails(NotUsable, {"word": "rule", "at": -1}, replayed, diary=(good,), rule=rule, bench=TWO)


class WhatIfs(Case):
    def test_example(self):
        self.same(span_after(MIX, ("all", 1), ("rule", "low", 2)), (12, 12))

    def test_each_kind_of_event(self):
        rng = random.Random(106)
        kinds = set()
        for bench, rule in STARTS:
            for _ in range(25):
                event = some_event(rng, bench)
                reason = reason_by_words(bench, event)
                if reason is not None:
                    self.fails(InvalidEvent, {"event": event, "reason": reason}, span_after, bench, rule, event)
                else:
                    then = behind_by_words(bench, (), event)[0]
                    wanted = World(then).span(event[1:] if event[0] == "rule" else rule)
                    self.same(span_after(bench, rule, event), wanted)
                    self.same(span_after(event=event, rule=rule, bench=bench), wanted)
                    kinds.add(event[0])
        self.same(len(kinds), 5)

    def test_refusals(self):
        for event, reason in BARRED:
            self.fails(InvalidEvent, {"event": event, "reason": reason}, span_after, MIX, ALL, event)
        for event in NO_EVENTS:
            error = self.raised(span_after, TWO, ALL, event)
            self.same((error.__class__, error.reason, error.event is event), (InvalidEvent, "form", True))
        for rule in NO_RULES:
            self.fails(NotUsable, {"word": "rule", "at": -1}, span_after, TWO, rule, ("go", 9, 9))
            self.fails(NotUsable, {"word": "rule", "at": -1}, span_after, event=("rule", "all", 1), rule=rule, bench=TWO)
