import random

from stubbornest.benchreadings import read_bench, read_chart
from stubbornest.benchtexts import bench_line, chart_line
from stubbornest.errors import InvalidPaper, InvalidRow, InvalidText, NotUsable, PaperError, TextError, UseError
from tests.cases import Case
from tests.samples import (
    DIAL, HUGE, LONG, LOOSE, NONE, ONE_LEVEL, PICK, SMALL, SWITCH, TWO, random_chart,
)

BIG = "9" * 3000

# Text, field of InvalidText.
CHART_FAULTS = (
    ("", -1), ("-;0", -1), ("-;0/0,1/", -1), ("//", -1), (" ", -1), (":", -1), ("-;x", -1), ("x/y/z", -1),
    ("/", 0), ("/0", 0), (";/0", 0), ("-;/0", 1), ("-;0;/0", 2), ("x/0", 0), ("-;x/0", 1), ("-;00/0,1", 1),
    ("-;01/0,1", 1), ("-;0,/0,1", 1), ("-;,0/0,1", 1), ("-;0,,0/0,1", 1), ("-;+0/0,1", 1), ("-;-1/0,1", 1),
    ("-;--/0,1", 1), ("--/0", 0), ("-,-/0", 0), ("-,0/0", 0), ("0,-/0", 0), (" -/0", 0), ("- /0", 0), ("-; 0/0", 1),
    ("-;0./0,1", 1), ("-;1_0/0,1", 1), ("-;(0)/0,1", 1), ("-,0;x/0", 0), ("-;0/", 2), ("-/", 1), ("-;0/-", 2),
    ("-;0/0,1;-", 3), ("-;0/0,1;", 3), ("-;0/;0,1", 2), ("-;0/0,01", 2), ("-;0/0,1;x;y", 3), ("-;0/ 0,1", 2),
    ("-;0/0,1 ", 2), ("-;0/0 1", 2), ("-;y/x", 1), ("-;0/00", 2), ("-;0/0,1,", 2), ("-;0:/0,1", 1),
)

# Text, the pair that is read and that is no chart.
CHART_ROWS = (
    ("-;0/0;1", (((), (0,)), ((0,), (1,)))),
    ("0/0", (((0,),), ((0,),))),
    ("-/1", (((),), ((1,),))),
    ("-;0,0/0,1", (((), (0, 0)), ((0, 1),))),
    ("-;0/0,1;0", (((), (0,)), ((0, 1), (0,)))),
    ("-;-/1;0", (((), ()), ((1,), (0,)))),
    ("7/" + BIG, (((7,),), ((int(BIG),),))),
)


class Lines(Case):
    def test_examples(self):
        self.same(bench_line(TWO), "-;0/0,1 -;0/0,1 : 0 2 1")
        self.fails(InvalidText, {"line": 0, "field": 4}, read_bench, "-;0/0,1 : 0 1")

    def test_charts(self):
        self.same(chart_line(SWITCH), "-;0/0,1")
        self.same(chart_line(PICK), "-;0;0;0;1,2,3/0,1,4;2;3")
        self.same(chart_line(ONE_LEVEL), "-/0")
        self.same(read_chart("-;0;0;0;1,2,3/0,1,4;2;3"), PICK)
        self.same(read_chart(text="-/0"), ONE_LEVEL)

    def test_benches(self):
        self.same(bench_line(NONE), ": 0 0 1")
        self.same(read_bench(": 0 0 1"), NONE)
        self.same(bench_line(((DIAL,), 1, 2, HUGE)), "-;0;1/0,1,2 : 1 2 " + "9" * 120)
        self.same(read_bench(text="-;0;1/0,1,2 : 1 2 " + "9" * 120), ((DIAL,), 1, 2, HUGE))

    def test_reading_undoes_writing(self):
        rng = random.Random(2)
        for chart in [SWITCH, LOOSE] + [random_chart(rng, rng.randint(1, 6), 5) for _ in range(50)]:
            self.same(read_chart(chart_line(chart)), chart)
        for bench in SMALL + LONG:
            self.same(read_bench(bench_line(bench)), bench)


class ChartReadings(Case):
    def test_faults(self):
        for text, field in CHART_FAULTS:
            self.fails(InvalidText, {"line": 0, "field": field}, read_chart, text)
            self.fails(InvalidText, {"line": 0, "field": field}, read_chart, text=text)

    def test_rows(self):
        for text, row in CHART_ROWS:
            self.fails(InvalidRow, {"row": row}, read_chart, text)

    def test_no_text(self):
        for text in (None, True, 0, (), [], ("-/0",), ["-/0"]):
            self.fails(NotUsable, {"word": "text", "at": -1}, read_chart, text)
            self.fails(NotUsable, {"word": "text", "at": -1}, read_bench, text=text)

    def test_families(self):
        for text in ("", "0/0"):
            error = self.raised(read_chart, text)
            self.assertIsInstance(error, TextError)
            self.assertNotIsInstance(error, (PaperError, UseError, InvalidPaper))


class BenchReadings(Case):
    def test_faults(self):
        faults = (
            ("", 0), (" ", 0), ("x", 0), ("0", 0), ("-", 0), ("-/0", 1), ("-/0 -/0", 2), (":", 1), (": 0", 2), (": 0 0", 3),
            (": 0 0 1 ", 4), (": 0 0 1 1", 4), (": 0 0 1 1 1", 4), (" : 0 0 1", 0), (":  0 0 1", 1), (": 0  0 1", 2),
            (": 0 0 1:", 3), (": 00 0 1", 1), (": 0 01 1", 2), (": 0 0 -1", 3), (": 0 0 +1", 3), (": x y z", 1),
            (": : 0 0 1", 1), (": 0 : 0 1", 2), ("-/0 : 0 0 1 -/0", 5), ("-/0  : 0 0 1", 1), ("-/0 x : 0 0 1", 1),
            ("-/ : 0 0 1", 0), ("-;0 : 0 0 1", 0), ("-/0 -/ : x 0 1", 1), (":0 0 1", 0), ("-/0: 0 0 1", 0),
            ("-/0 : -/0 0 1", 2), ("-/0 : 0 0", 4), (": 0 0 x", 3), (": 0 0 (1)", 3), (": 0 0 1.0", 3),
        )
        for text, field in faults:
            self.fails(InvalidText, {"line": 0, "field": field}, read_bench, text)
            self.fails(InvalidText, {"line": 0, "field": field}, read_bench, text=text)

    def test_rows(self):
        rows = (
            (": 0 0 0", ((), 0, 0, 0)),
            (": 0 1 1", ((), 0, 1, 1)),
            (": 1 0 1", ((), 1, 0, 1)),
            ("-;0/0,1 : 1 0 1", ((SWITCH,), 1, 0, 1)),
            ("-;0/0,1 : 0 2 1", ((SWITCH,), 0, 2, 1)),
            (": 0 0 " + "0", ((), 0, 0, 0)),
            ("-;0/0;1 : 0 0 1", (((((), (0,)), ((0,), (1,))),), 0, 0, 1)),
            ("-/0 0/0 : 5 4 0", ((ONE_LEVEL, (((0,),), ((0,),))), 5, 4, 0)),
        )
        for text, row in rows:
            self.fails(InvalidRow, {"row": row}, read_bench, text)

    def test_words_are_read_ahead_of_the_bench(self):
        self.fails(InvalidText, {"line": 0, "field": 2}, read_bench, "-;0/0;1 : x 0 1")
        self.fails(InvalidText, {"line": 0, "field": 4}, read_bench, "-;0/0;1 : 5 4")
