"""Every example of the document up to stage 15, as it stands there."""

from stubbornest.benches import points_of
from stubbornest.benchkinds import is_bench
from stubbornest.claims import claim_price
from stubbornest.errors import BenchError
from stubbornest.layers import layers_of, weight_of, window_of
from stubbornest.listings import names_of
from stubbornest.members import members_of
from stubbornest.plancourses import longest_course
from stubbornest.prices import least_number
from stubbornest.rims import rim_of
from stubbornest.tablechecker import lets_paper
from stubbornest.tablekinds import is_table
from stubbornest.tablepapers import table_paper
from stubbornest.tables import tables_of
from tests.cases import Case
from tests.samples import MIX, TWO, WARN

EXAMPLES = r"""
>>> SWITCH = (((), (0,)), ((0, 1),))
>>> DIAL = (((), (0,), (1,)), ((0, 1, 2),))
>>> PICK = (((), (0,), (0,), (0,), (1, 2, 3)), ((0, 1, 4), (2,), (3,)))
>>> TWO, WARN = ((SWITCH, SWITCH), 0, 2, 1), ((SWITCH, SWITCH), 0, 2, 2)
>>> MIX = ((DIAL, SWITCH), 0, 3, 1)
>>> from stubbornest.kinds import is_set
>>> is_set(3, (0, True))
False
>>> from stubbornest.chartchecker import lets_chart
>>> lets_chart((((), (0,)), ((0,), (1,))))
raises InvalidPaper(word='rank', at=(1, 0))
>>> from stubbornest.shapes import ring
>>> ring(2)
(((), (0,), (0,), (1, 2), (1, 2), (3, 4)), ((0, 1, 3, 5), (2, 4)))
>>> from stubbornest.charts import partners_of
>>> partners_of(PICK, 0, 1)
(2, 3)
>>> from stubbornest.layers import window_of
>>> window_of(TWO, 2)
(0, 1)
>>> from stubbornest.changes import cut_to, face_of
>>> face_of(MIX, 0, 1) == ((SWITCH,), 0, 1, 1)
True
>>> face_of(cut_to(MIX, 0, 0), 1, 1)
raises NotUsable(word='level', at=-1)
>>> from stubbornest.benchtexts import bench_line
>>> bench_line(TWO)
'-;0/0,1 -;0/0,1 : 0 2 1'
>>> from stubbornest.benchreadings import read_bench
>>> read_bench('-;0/0,1 : 0 1')
raises InvalidText(line=0, field=4)
>>> from stubbornest.benchclasses import Bench
>>> (0, True) in Bench(TWO)
False
>>> from stubbornest.walks import chain_of, is_name
>>> chain_of(MIX, (1, 1))
(((0, 0), (0, 1)), 1)
>>> is_name(MIX, ((0, 0), (0, 2)))
False
>>> from stubbornest.members import member_at, members_of, within
>>> members_of(MIX, ((0, 0), (0, 0)))
((0, 0), (1, 0), (2, 0), (2, 1))
>>> within(((DIAL, SWITCH), 2, 3, 1), ((0, 0), (0, 1)))
(1, 1)
>>> member_at(MIX, ((0, 0), (0, 1)), 2)
raises NotUsable(word='place', at=-1)
>>> from stubbornest.threes import inner_points, partners_at, straight_places
>>> PAIRS = (((), (), (0, 1), (0, 1), (2, 3), (2, 3)), ((0, 2, 4), (1, 3, 5)))
>>> inner_points(((PAIRS,), 0, 2, 1), ((0, 0),), 1)
((3,),)
>>> partners_at(((PAIRS,), 0, 2, 1), ((0, 0),), 1)
()
>>> straight_places(MIX, ((0, 0), (0, 0)))
(1,)
>>> from stubbornest.counts import chain_counts, counts_within, long_weight
>>> chain_counts(MIX), counts_within(((DIAL, SWITCH), 1, 2, 1)), long_weight(MIX)
(((2, 1), (4, 1)), ((2, 2),), 4)
>>> from stubbornest.ranking import chain_number, nth_chain
>>> nth_chain(((SWITCH, SWITCH, SWITCH), 0, 3, 1), 2, 1)
((0, 0), (0, 1), (0, 0))
>>> from stubbornest.listings import chains_of
>>> list(chains_of(TWO))
[((0, 1),), ((0, 0), (1, 0), (1, 1))]
>>> from stubbornest.folding import folded
>>> folded(TWO)
(((), (0,), (0,), (1, 2)), ((0, 2, 3), (1,)))
>>> from stubbornest.partchecker import lets_parting
>>> lets_parting(TWO, 2, (((0, 1),), ((0, 0), (1, 0), (1, 1))))
3
>>> lets_parting(TWO, 1, (((0, 1),), ((0, 0), (1, 1))))
raises InvalidPaper(word='lacking', at=2)
>>> from stubbornest.chainclasses import Chain
>>> Chain(TWO, ((0, 0), (0, 0))).up((1, 0))
(1, 1)
>>> from stubbornest.tablekinds import is_table
>>> [is_table(TWO, (0, 1, 0, 1)), is_table(TWO, (0, 1, 0, 0))]
[True, False]
>>> from stubbornest.tables import tables_of, turned_table
>>> list(tables_of(TWO))
[(0, 0, 0, 0), (0, 0, 0, 1), (0, 0, 1, 1), (0, 1, 0, 1), (0, 1, 1, 1), (1, 1, 1, 1)]
>>> turned_table(WARN, (0, 0, 1, 2))
(2, 2, 1, 0)
>>> from stubbornest.thresholds import threshold_table, stacked
>>> threshold_table(WARN, (0, 1, 1, 2), 0)
raises NotUsable(word='grade', at=-1)
>>> stacked(WARN, ((0, 1, 1, 1), (0, 0, 0, 1)))
(0, 1, 1, 2)
>>> from stubbornest.rims import raisable, lowerable, rim_on
>>> (raisable(TWO, (0, 1, 1, 1)), lowerable(TWO, (0, 1, 1, 1)))
(((0, 0),), ((0, 1), (1, 0)))
>>> rim_on(TWO, (0, 1, 1, 1), ((0, 0), (0, 0)))
((0, 0), (1, 0))
>>> from stubbornest.lists import upper_list, by_upper
>>> upper_list(WARN, (0, 1, 1, 2))
(((0, 0), 0), ((0, 1), 1), ((1, 0), 1))
>>> by_upper(WARN, (((0, 1), 0), ((1, 0), 1)))
(0, 0, 1, 2)
>>> from stubbornest.knowns import ceiling_of, open_for
>>> ceiling_of(WARN, (((0, 1), 1),))
(1, 1, 2, 2)
>>> open_for(WARN, (((0, 1), 1),), 2)
((1, 0), (1, 1))
>>> from stubbornest.stubborn import stubborn_table, changed
>>> [stubborn_table(WARN), stubborn_table(MIX)]
[(0, 1, 1, 1), (0, 0, 0, 1, 1, 1)]
>>> changed(TWO, (0, 1, 1, 1), (0, 1))
(0, 0, 1, 1)
>>> from stubbornest.tablepapers import table_paper
>>> table_paper(TWO, (0, 0, 0, 1))
((((0, 1), 0), ((1, 0), 0), ((1, 1), 1)), (0, 0, 0, 1))
>>> from stubbornest.tablechecker import lets_paper
>>> lets_paper(TWO, ((((0, 1), 0), ((1, 1), 1)), (0, 0, 0, 1)))
raises InvalidPaper(word='lacking', at=2)
>>> from stubbornest.facetables import filled_out
>>> filled_out(((PICK, SWITCH), 0, 3, 1), 0, 2, (0, 1))
(0, 0, 0, 0, 0, 1, 0, 0, 1, 1)
>>> from stubbornest.tableclasses import Table
>>> one = Table(TWO, (0, 1, 1, 1))
>>> one.change((0, 1))
>>> (one.grades(), one.rim(), list(one & Table(TWO, (0, 1, 0, 1)))[3])
((0, 0, 1, 1), ((0, 1), (1, 0)), ((1, 1), 1))
>>> from stubbornest.turns import stretch, wanted
>>> wanted(MIX, (((0, 1), 1),))
(((0, 0), (0, 0)), 1)
>>> stretch(MIX, (((0, 1), 1),), ((0, 0), (0, 0)), 1)
((0, 0), (1, 0), (2, 0))
>>> stretch(TWO, (), ((0, 0), (0, 1)), 0)
raises NotUsable(word='grade', at=-1)
>>> from stubbornest.nexttests import next_test
>>> next_test(MIX, ())
(1, 1)
>>> next_test(MIX, (((0, 1), 1),))
(1, 0)
>>> from stubbornest.bounds import at_most
>>> at_most(MIX, ()), at_most(MIX, (((0, 1), 1),))
(4, 2)
>>> from stubbornest.plancourses import course_from, plan_course
>>> plan_course(TWO, (0, 1, 1, 1))
(((0, 1), 1), ((1, 0), 1), ((0, 0), 0))
>>> course_from(TWO, (((1, 0), 1),), (0, 1, 1, 1))
(((0, 1), 1), ((0, 0), 0))
>>> course_from(TWO, (((1, 0), 0),), (0, 1, 1, 1))
raises NotUsable(word='table', at=-1)
>>> from stubbornest.plancourses import longest_course
>>> longest_course(MIX)
4
>>> from stubbornest.rounds import next_round, rounds_of
>>> next_round(MIX, ())
((0, 1), (1, 1))
>>> rounds_of(TWO, (0, 0, 0, 1))
((((0, 1), 0),), (((1, 0), 0), ((1, 1), 1)))
>>> from stubbornest.rounds import rounds_bound
>>> rounds_bound(TWO), rounds_bound(MIX)
(2, 3)
>>> from stubbornest.sequences import course_by, shown_after
>>> course_by(TWO, (0, 0, 0, 1), ((0, 1), (0, 0), (1, 1), (0, 1)))
(((0, 1), 0), ((1, 1), 1))
>>> shown_after(TWO, (0, 0, 0, 1), ((0, 1), (0, 1), (1, 1), (1, 0), (0, 0)))
4
>>> from stubbornest.coursechecker import lets_course
>>> lets_course(TWO, ((((0, 1), 0), ((0, 0), 0)), (0, 0, 0, 1)))
raises InvalidPaper(word='idle', at=1)
>>> from stubbornest.openings import open_counts
>>> open_counts(WARN, (((0, 1), 1),), ((0, 0), (0, 0)))
(2, 2)
>>> from stubbornest.searchclasses import Search
>>> search = Search(TWO)
>>> search.tell((1, 0), 1)
>>> search.next(), search.left(), search.ceiling()
((0, 1), 2, (1, 1, 1, 1))
>>> search.tell((1, 1), 1)
raises NotUsable(word='point', at=-1)
>>> from stubbornest.prices import least_number, price_span
>>> price_span(TWO, ("yes", 1)), price_span(MIX, ("yes", 1))
((5, 5), (6, 7))
>>> least_number(((SWITCH, SWITCH), 0, 1, 1), ("yes", 1))
raises Apart(least=4, most=5)
>>> from stubbornest.claims import claim_price
>>> claim_price(TWO, ("yes", 1), (0, 1, 1, 1)), claim_price(TWO, ("yes", 1), (1, 1, 1, 1))
(4, 2)
>>> from stubbornest.following import follow
>>> follow(TWO, ("all", 1), (0, 0, 1))
(((0, 1), (0, 1), (1, 1)), (((0, 1), 0),), 1, (1, 1))
>>> follow(TWO, ("low", 0), (1, 0, 0))
raises NotUsable(word='grades', at=2)
>>> from stubbornest.worsts import settled_course, worst_told
>>> settled_course(MIX, ("yes", 1), (0, 1, 0, 1, 1, 1))
(((1, 1), 1), ((0, 1), 1), ((2, 0), 1), ((1, 0), 0))
>>> worst_told(MIX, ("yes", 1)), worst_told(MIX, ("all", 1))
(6, 9)
>>> from stubbornest.telling import told_grades
>>> told_grades(TWO, ("all", 1), (0, 1, 1, 1), ((1, 0),))
(1, 0, 1, 1, 0)
>>> from stubbornest.judging import judge
>>> judge(TWO, ("all", 1), (0, 1, 1, 1), (1, 1, 1))
(((0, 1), (0, 1), (1, 0)), (1, 0), None)
>>> from stubbornest.mostcosts import most_for
>>> most_for(TWO, ("all", 1), (((0, 1), 0),), 1), most_for(TWO, ("yes", 1), (((0, 1), 0),), 1)
(5, 3)
>>> from stubbornest.finderclasses import Finder
>>> finder = Finder(TWO, ("yes", 1))
>>> finder.tell(1)
>>> finder.next(), finder.known(), finder.most()
((1, 0), (((0, 1), 1),), 3)
>>> from stubbornest.logs import fits, counts_at
>>> fits(TWO, ("low", 1), (((0, 1), 0), ((1, 1), 1)), (0, 1, 1, 1))
True
>>> counts_at(WARN, (((0, 1), 2), ((0, 1), 2), ((0, 1), 0)), (0, 1))
(1, 0, 2)
>>> from stubbornest.pointwise import grades_left
>>> grades_left(WARN, ("each", 1), (((0, 1), 0), ((0, 1), 2)), (0, 1))
(0, 2)
>>> from stubbornest.pointwise import least_fit, greatest_fit
>>> told = (((0, 0), 1), ((0, 0), 1), ((0, 1), 0), ((0, 1), 2))
>>> least_fit(WARN, ("each", 1), told), greatest_fit(WARN, ("each", 1), told)
((1, 2, 1, 2), (1, 2, 2, 2))
>>> greatest_fit(TWO, ("yes", 0), ())
raises NotUsable(word='rule', at=-1)
>>> from stubbornest.testers import joined_fits
>>> joined_fits(TWO, ((("low", 0), (((0, 1), 1),)), (("each", 0), (((0, 0), 0),))))
((0, 1, 0, 1), (0, 1, 1, 1))
>>> from stubbornest.falling import falls, fewest_wrong
>>> falls(TWO, ((0, 1), 1), ((0, 1), 0))
True
>>> fewest_wrong(TWO, (((0, 0), 1), ((0, 1), 0), ((1, 0), 0)))
1
>>> from stubbornest.fallingchecker import lets_falling
>>> told = (((0, 0), 1), ((0, 1), 0), ((1, 0), 0))
>>> lets_falling(TWO, told, ((0, 2), (1,)))
1
>>> lets_falling(TWO, told, ((0, 1), (1,)))
raises InvalidPaper(word='twice', at=(1, 0))
>>> from stubbornest.mildest import mild_tables
>>> mild_tables(TWO, (((0, 0), 1), ((0, 1), 0)))
(1, (0, 0, 0, 0), (1, 1, 1, 1))
>>> from stubbornest.possible import possible_at, sure_points
>>> possible_at(TWO, ("all", 1), (((1, 1), 0),), (0, 0))
(0, 1)
>>> sure_points(TWO, ("yes", 1), (((1, 0), 1),))
(((1, 0), 1), ((1, 1), 1))
>>> from stubbornest.possible import shown_table, beside_fit
>>> shown_table(TWO, ("all", 0), (((0, 1), 0), ((1, 0), 0), ((1, 1), 1)))
(0, 0, 0, 1)
>>> beside_fit(TWO, ("low", 0), (((0, 1), 0), ((1, 0), 0)), (0, 0, 0, 0))
(0, 0, 0, 1)
>>> from stubbornest.lackings import lacking
>>> one, f = (((0, 0), 0),), (0, 1, 1, 1)
>>> lacking(TWO, ("all", 1), one, f), lacking(TWO, ("yes", 1), one, f)
(6, 3)
>>> lacking(TWO, ("each", 2), (((0, 0), 0), ((1, 1), 0)), f)
raises NotUsable(word='log', at=1)
>>> from stubbornest.logclasses import Log
>>> one = Log(TWO, ("each", 0))
>>> one.add((0, 1), 1)
>>> one.add((1, 0), 0)
>>> one.shown()
(0, 1, 0, 1)
>>> from stubbornest.hards import step_table, hard_table
>>> step_table(WARN, 0), hard_table(TWO, ("yes", 1))
((0, 2, 2, 2), (0, 0, 0, 1))
>>> from stubbornest.answering import answers_to, two_left
>>> asked = ((0, 0), (0, 0), (0, 1), (0, 1), (1, 0), (1, 0))
>>> answers_to(TWO, ("all", 1), (0, 1, 1, 1), asked)[3:]
(((0, 1), 1), ((1, 0), 1), ((1, 0), 0))
>>> two_left(TWO, ("all", 1), (0, 1, 1, 1), asked)
((0, 1, 0, 1), (0, 1, 1, 1))
>>> answers_to(TWO, ("low", 1), (0, 1, 1, 1), ((0, 1), (0, 0), (0, 1)))
(((0, 1), 0), ((0, 0), 0), ((0, 1), 1))
>>> from stubbornest.trees import ends_of, end_by
>>> tree = ("ask", (0, 1), (("is", (0, 0, 0, 1)), None))
>>> list(ends_of(TWO, tree))
[((((0, 1), 0),), (0, 0, 0, 1)), ((((0, 1), 1),), None)]
>>> end_by(TWO, tree, (1, 1, 1, 1))
((((0, 1), 1),), None)
>>> from stubbornest.plantrees import plan_tree
>>> plan_tree(((SWITCH,), 0, 1, 2), ("all", 0))[2][:2]
(('is', (0, 0)), ('ask', (0,), (('is', (0, 1)), ('is', (1, 1)), None)))
>>> from stubbornest.treejudging import depth_of, first_wrong
>>> POINT = ((), 0, 0, 1)
>>> once = ("ask", (), (("is", (0,)), ("is", (1,))))
>>> depth_of(POINT, ("all", 0), once), first_wrong(POINT, ("all", 1), once)
(1, ((((), 0),), (0,), (1,)))
>>> depth_of(POINT, ("all", 0), ("ask", (), (None, None)))
-1
>>> from stubbornest.beating import beaten
>>> beaten(POINT, ("all", 1), (1,), once)
((((), 1),), (1,), (0,))
>>> from stubbornest.wrongchecker import lets_wrong
>>> lets_wrong(POINT, ("all", 0), once, ((((), 0),), (0,), (1,)))
raises InvalidPaper(word='fits', at=-1)
>>> from stubbornest.games import whole_game
>>> whole_game(((SWITCH, SWITCH), 0, 1, 1), ("yes", 1)), whole_game(((DIAL,), 0, 2, 1), ("yes", 1))
(4, 4)
>>> from stubbornest.answererclasses import Answerer
>>> one = Answerer(TWO, ("yes", 1), (1, 1, 1, 1))
>>> one.answer((0, 0)), one.lacking(), one.pair()
(0, ((0, 0),), ((0, 1, 1, 1), (1, 1, 1, 1)))
>>> from stubbornest.edits import log_after
>>> log_after(MIX, (((1, 1), 1), ((0, 1), 1), ((1, 0), 0)), ("go", 0, 1))
(((1,), 1), ((0,), 0))
>>> from stubbornest.live import LiveBench
>>> live = LiveBench(TWO, ("all", 0))
>>> live.test((0, 1), 1)
>>> live.test((1, 1), 0)
raises InvalidEvent(event=('test', (1, 1), 0), reason='fits')
>>> live.come(SWITCH, 0)
>>> live.log_now(), live.sure_now()
((((0, 1, 0), 1),), (((0, 1, 0), 1), ((0, 1, 1), 1), ((1, 1, 0), 1), ((1, 1, 1), 1)))
>>> live.next_now(), live.span_now()
((1, 0, 1), (6, 6))
>>> from stubbornest.whatifs import span_after
>>> span_after(MIX, ("all", 1), ("rule", "low", 2))
(12, 12)
>>> from stubbornest.eventtexts import event_line
>>> event_line(("come", SWITCH, 1)), event_line(("test", (0, 2), 1))
('come -;0/0,1 1', 'test 0.2 1')
>>> from stubbornest.eventreadings import read_event
>>> read_event('test 0.1')
raises InvalidText(line=0, field=2)
>>> from stubbornest.desk import desk
>>> desk(LiveBench(TWO, ("all", 0)), 'test 0.1 1\nnext\nsure\ntest 0.0 2\nundo\nshown')
('done', '1.0', '0.1:1 1.1:1', 'barred grade', 'test 0.1 1', 'none')
"""


def told(line, names):
    """What the document would show below the line."""
    try:
        value = eval(line, names)
        return "" if value is None else repr(value)
    except SyntaxError:
        exec(line, names)
        return ""
    except BenchError as error:
        fields = ", ".join(f"{name}={value!r}" for name, value in vars(error).items())
        return f"raises {error.__class__.__name__}({fields})"


class Examples(Case):
    def test_examples(self):
        names = {}
        parts = EXAMPLES.split(">>> ")[1:]
        self.assertEqual(len(parts), 211)
        for part in parts:
            line, _, wanted = part.partition("\n")
            self.assertEqual(told(line, names), wanted.strip(), line)

    def test_the_benches_of_the_section(self):
        for bench in (TWO, WARN, MIX):
            self.same(is_bench(bench), True)
        self.same(points_of(TWO), ((0, 0), (0, 1), (1, 0), (1, 1)))
        self.same(layers_of(TWO), (1, 2, 1))
        self.same(names_of(TWO), (((0, 0), (0, 0)), ((0, 0), (0, 1))))
        self.same(members_of(TWO, ((0, 0), (0, 0))), ((0, 0), (1, 0), (1, 1)))
        self.same(members_of(TWO, ((0, 0), (0, 1))), ((0, 1),))
        self.same(window_of(TWO, 2), (0, 1))
        self.same(weight_of(TWO), 3)
        self.same(is_table(TWO, (0, 1, 1, 1)), True)
        self.same(layers_of(MIX), (1, 2, 2, 1))
        self.same(weight_of(MIX), 4)
        self.same(len(list(tables_of(MIX))), 10)
        self.same(rim_of(TWO, (0, 1, 1, 1)), ((0, 0), (0, 1), (1, 0)))
        self.same(lets_paper(TWO, table_paper(TWO, (0, 1, 1, 1))), 3)
        self.same(claim_price(TWO, ("all", 1), (0, 1, 1, 1)), 7)
        self.same(least_number(TWO, ("all", 1)), 7)
        self.same((least_number(MIX, ("all", 0)), longest_course(MIX)), (4, 4))
