"""Every example of the document up to stage 7, as it stands there."""

from stubbornest.benches import points_of
from stubbornest.benchkinds import is_bench
from stubbornest.errors import BenchError
from stubbornest.layers import layers_of, weight_of, window_of
from stubbornest.listings import names_of
from stubbornest.members import members_of
from stubbornest.tablekinds import is_table
from stubbornest.tables import tables_of
from tests.cases import Case
from tests.samples import MIX, TWO, WARN

EXAMPLES = """
>>> SWITCH = (((), (0,)), ((0, 1),))
>>> DIAL = (((), (0,), (1,)), ((0, 1, 2),))
>>> PICK = (((), (0,), (0,), (0,), (1, 2, 3)), ((0, 1, 4), (2,), (3,)))
>>> TWO, WARN = ((SWITCH, SWITCH), 0, 2, 1), ((SWITCH, SWITCH), 0, 2, 2)
>>> MIX = ((DIAL, SWITCH), 0, 3, 1)
>>> from stubbornest.kinds import is_set
>>> is_set(3, (0, True))
False
>>> from stubbornest.chartchecker import lets_chart
>>> lets_chart((((), (0,)), ((0,), (1,))))
raises InvalidPaper(word='rank', at=(1, 0))
>>> from stubbornest.shapes import ring
>>> ring(2)
(((), (0,), (0,), (1, 2), (1, 2), (3, 4)), ((0, 1, 3, 5), (2, 4)))
>>> from stubbornest.charts import partners_of
>>> partners_of(PICK, 0, 1)
(2, 3)
>>> from stubbornest.layers import window_of
>>> window_of(TWO, 2)
(0, 1)
>>> from stubbornest.changes import cut_to, face_of
>>> face_of(MIX, 0, 1) == ((SWITCH,), 0, 1, 1)
True
>>> face_of(cut_to(MIX, 0, 0), 1, 1)
raises NotUsable(word='level', at=-1)
>>> from stubbornest.benchtexts import bench_line
>>> bench_line(TWO)
'-;0/0,1 -;0/0,1 : 0 2 1'
>>> from stubbornest.benchreadings import read_bench
>>> read_bench('-;0/0,1 : 0 1')
raises InvalidText(line=0, field=4)
>>> from stubbornest.benchclasses import Bench
>>> (0, True) in Bench(TWO)
False
>>> from stubbornest.walks import chain_of, is_name
>>> chain_of(MIX, (1, 1))
(((0, 0), (0, 1)), 1)
>>> is_name(MIX, ((0, 0), (0, 2)))
False
>>> from stubbornest.members import member_at, members_of, within
>>> members_of(MIX, ((0, 0), (0, 0)))
((0, 0), (1, 0), (2, 0), (2, 1))
>>> within(((DIAL, SWITCH), 2, 3, 1), ((0, 0), (0, 1)))
(1, 1)
>>> member_at(MIX, ((0, 0), (0, 1)), 2)
raises NotUsable(word='place', at=-1)
>>> from stubbornest.threes import inner_points, partners_at, straight_places
>>> PAIRS = (((), (), (0, 1), (0, 1), (2, 3), (2, 3)), ((0, 2, 4), (1, 3, 5)))
>>> inner_points(((PAIRS,), 0, 2, 1), ((0, 0),), 1)
((3,),)
>>> partners_at(((PAIRS,), 0, 2, 1), ((0, 0),), 1)
()
>>> straight_places(MIX, ((0, 0), (0, 0)))
(1,)
>>> from stubbornest.counts import chain_counts, counts_within, long_weight
>>> chain_counts(MIX), counts_within(((DIAL, SWITCH), 1, 2, 1)), long_weight(MIX)
(((2, 1), (4, 1)), ((2, 2),), 4)
>>> from stubbornest.ranking import chain_number, nth_chain
>>> nth_chain(((SWITCH, SWITCH, SWITCH), 0, 3, 1), 2, 1)
((0, 0), (0, 1), (0, 0))
>>> from stubbornest.listings import chains_of
>>> list(chains_of(TWO))
[((0, 1),), ((0, 0), (1, 0), (1, 1))]
>>> from stubbornest.folding import folded
>>> folded(TWO)
(((), (0,), (0,), (1, 2)), ((0, 2, 3), (1,)))
>>> from stubbornest.partchecker import lets_parting
>>> lets_parting(TWO, 2, (((0, 1),), ((0, 0), (1, 0), (1, 1))))
3
>>> lets_parting(TWO, 1, (((0, 1),), ((0, 0), (1, 1))))
raises InvalidPaper(word='lacking', at=2)
>>> from stubbornest.chainclasses import Chain
>>> Chain(TWO, ((0, 0), (0, 0))).up((1, 0))
(1, 1)
>>> from stubbornest.tablekinds import is_table
>>> [is_table(TWO, (0, 1, 0, 1)), is_table(TWO, (0, 1, 0, 0))]
[True, False]
>>> from stubbornest.tables import tables_of, turned_table
>>> list(tables_of(TWO))
[(0, 0, 0, 0), (0, 0, 0, 1), (0, 0, 1, 1), (0, 1, 0, 1), (0, 1, 1, 1), (1, 1, 1, 1)]
>>> turned_table(WARN, (0, 0, 1, 2))
(2, 2, 1, 0)
>>> from stubbornest.thresholds import threshold_table, stacked
>>> threshold_table(WARN, (0, 1, 1, 2), 0)
raises NotUsable(word='grade', at=-1)
>>> stacked(WARN, ((0, 1, 1, 1), (0, 0, 0, 1)))
(0, 1, 1, 2)
"""


def told(line, names):
    """What the document would show below the line."""
    try:
        return repr(eval(line, names))
    except SyntaxError:
        exec(line, names)
        return ""
    except BenchError as error:
        fields = ", ".join(f"{name}={value!r}" for name, value in vars(error).items())
        return f"raises {error.__class__.__name__}({fields})"


class Examples(Case):
    def test_examples(self):
        names = {}
        parts = EXAMPLES.split(">>> ")[1:]
        self.assertEqual(len(parts), 57)
        for part in parts:
            line, _, wanted = part.partition("\n")
            self.assertEqual(told(line, names), wanted.strip(), line)

    def test_the_benches_of_the_section(self):
        for bench in (TWO, WARN, MIX):
            self.same(is_bench(bench), True)
        self.same(points_of(TWO), ((0, 0), (0, 1), (1, 0), (1, 1)))
        self.same(layers_of(TWO), (1, 2, 1))
        self.same(names_of(TWO), (((0, 0), (0, 0)), ((0, 0), (0, 1))))
        self.same(members_of(TWO, ((0, 0), (0, 0))), ((0, 0), (1, 0), (1, 1)))
        self.same(members_of(TWO, ((0, 0), (0, 1))), ((0, 1),))
        self.same(window_of(TWO, 2), (0, 1))
        self.same(weight_of(TWO), 3)
        self.same(is_table(TWO, (0, 1, 1, 1)), True)
        self.same(layers_of(MIX), (1, 2, 2, 1))
        self.same(weight_of(MIX), 4)
        self.same(len(list(tables_of(MIX))), 10)
