"""Each function and class of the interface stands in its own module, with its parameters by their names."""

import importlib
import inspect
import unittest

FUNCTIONS = {
    "kinds": ("is_integer(thing)", "is_number(thing)", "is_set(size, thing)", "bits(many)"),
    "chartchecker": ("lets_chart(thing)",),
    "benchkinds": (
        "is_chart(thing)", "is_bench(thing)", "is_full(bench, thing)", "is_point(bench, thing)", "is_rule(top, thing)",
    ),
    "shapes": ("switch()", "dial()", "pick(many)", "ring(many)", "flat(many)", "ladder(many)"),
    "charts": (
        "height_of(chart)", "ranks_of(chart)", "place_of(chart, level)", "is_below(chart, one, other)",
        "partners_of(chart, index, place)", "run_of(chart)",
    ),
    "turning": ("turned_chart(chart)", "turned(bench)"),
    "benches": (
        "height(bench)", "rank_of(bench, point)", "how_many_full(bench)", "is_under(bench, one, other)",
        "whole(charts, top)", "points_of(bench)", "number_of(bench, point)", "lower_points(bench, point)",
        "upper_points(bench, point)",
    ),
    "layers": (
        "layers_of(bench)", "how_many(bench)", "window_of(bench, many)", "spread_of(bench, many)", "weight_of(bench)",
    ),
    "changes": (
        "reordered(bench, order)", "cut_to(bench, low, high)", "grown(bench, chart)", "face_of(bench, slot, level)",
        "beside(bench, many)",
    ),
    "benchtexts": ("chart_line(chart)", "bench_line(bench)"),
    "benchreadings": ("read_chart(text)", "read_bench(text)"),
    "walks": ("chain_of(bench, point)", "is_name(bench, thing)", "size_of(bench, name)"),
    "members": (
        "member_at(bench, name, place)", "members_of(bench, name)", "within(bench, name)", "next_up(bench, point)",
        "next_down(bench, point)",
    ),
    "threes": (
        "three_at(bench, name, place)", "inner_points(bench, name, place)", "partners_at(bench, name, place)",
        "straight_places(bench, name)", "run_on(bench, name)",
    ),
    "runs": ("bench_run(bench)",),
    "counts": ("chain_counts(bench)", "counts_within(bench)", "long_weight(bench)"),
    "ranking": ("chain_number(bench, name)", "nth_chain(bench, size, number)"),
    "listings": ("names_of(bench)", "names_by_size(bench)", "chains_of(bench)"),
    "folding": ("folded(bench)", "folded_bench(bench)"),
    "partpapers": ("part_paper(bench)",),
    "partchecker": ("lets_parting(bench, many, thing)",),
    "tablekinds": ("is_table(bench, thing)", "is_answer(bench, thing)", "is_known(bench, thing)"),
    "tables": (
        "grade_at(bench, table, point)", "tables_of(bench)", "lesser(bench, one, other)", "greater(bench, one, other)",
        "rank_table(bench, grades)", "turned_table(bench, table)",
    ),
    "thresholds": ("threshold_table(bench, table, grade)", "stacked(bench, thresholds)"),
    "rims": ("raisable(bench, table)", "lowerable(bench, table)", "rim_of(bench, table)", "rim_on(bench, table, name)"),
    "lists": (
        "upper_list(bench, table)", "lower_list(bench, table)", "is_upper_list(bench, thing)",
        "is_lower_list(bench, thing)", "by_upper(bench, answers)", "by_lower(bench, answers)",
    ),
    "knowns": (
        "floor_of(bench, known)", "ceiling_of(bench, known)", "unsettled_points(bench, known)",
        "open_for(bench, known, grade)", "known_of(bench, table, points)",
    ),
    "stubborn": ("stubborn_table(bench)", "changed(bench, table, point)"),
    "tablepapers": ("table_paper(bench, table)", "second_table(bench, table, points)"),
    "tablechecker": ("lets_paper(bench, thing)",),
    "facetables": ("face_table(bench, slot, level, table)", "filled_out(bench, slot, level, table)"),
    "turns": ("chain_due(bench, known)", "stretch(bench, known, name, grade)", "wanted(bench, known)"),
    "nexttests": ("next_test(bench, known)",),
    "bounds": ("at_most(bench, known)",),
    "plancourses": ("plan_course(bench, table)", "course_from(bench, known, table)", "longest_course(bench)"),
    "rounds": ("next_round(bench, known)", "rounds_of(bench, table)", "rounds_bound(bench)"),
    "sequences": ("course_by(bench, table, points)", "shown_after(bench, table, points)"),
    "coursepapers": ("course_paper(bench, table)",),
    "coursechecker": ("lets_course(bench, thing)",),
    "openings": ("open_counts(bench, known, name)",),
    "prices": ("price_span(bench, rule)", "least_number(bench, rule)", "upper_first(bench, rule)"),
    "claims": ("claim_price(bench, rule, table)",),
    "fixed": (
        "fixed_number(rule)", "fixed_price(bench, rule)", "decides(bench, rule, counts)",
        "undecided(bench, rule, counts)",
    ),
    "settling": ("left_grades(rule, still, least, most, grades)", "off_by(rule, settled, grades)"),
    "following": ("next_under(bench, rule, known)", "follow(bench, rule, grades)"),
    "worsts": ("settled_course(bench, rule, table)", "worst_told(bench, rule)"),
    "telling": ("told_grades(bench, rule, table, wrongs)", "follow_table(bench, rule, table, wrongs)"),
    "judging": ("judge(bench, rule, table, grades)",),
    "mostcosts": ("most_for(bench, rule, known, still)",),
    "logkinds": ("is_log(bench, thing)",),
    "logs": ("wrong_in(bench, log, table)", "fits(bench, rule, log, table)", "counts_at(bench, log, point)"),
    "pointwise": ("grades_left(bench, rule, log, point)", "least_fit(bench, rule, log)", "greatest_fit(bench, rule, log)"),
    "testers": ("joined_fits(bench, testers)",),
    "falling": ("falls(bench, one, other)", "fewest_wrong(bench, log)", "falling_rows(bench, log)"),
    "fallingchecker": ("lets_falling(bench, log, thing)",),
    "mildest": ("mild_tables(bench, log)",),
    "possible": (
        "possible_at(bench, rule, log, point)", "sure_points(bench, rule, log)", "shown_table(bench, rule, log)",
        "two_fits(bench, rule, log)", "beside_fit(bench, rule, log, table)",
    ),
    "lackings": ("lacking_points(bench, rule, log, table)", "lacking(bench, rule, log, table)"),
    "hards": ("step_table(bench, rank)", "hard_table(bench, rule)"),
    "answering": ("answers_to(bench, rule, table, points)", "two_left(bench, rule, table, points)"),
    "treekinds": ("is_tree(bench, thing)",),
    "trees": ("ends_of(bench, tree)", "end_by(bench, tree, table)"),
    "plantrees": ("plan_tree(bench, rule)",),
    "treejudging": ("depth_of(bench, rule, tree)", "first_wrong(bench, rule, tree)", "is_right(bench, rule, tree)"),
    "beating": ("beaten(bench, rule, table, tree)",),
    "wrongchecker": ("lets_wrong(bench, rule, tree, thing)",),
    "games": ("whole_game(bench, rule)",),
    "liveevents": ("is_event(thing)", "is_diary(thing)"),
    "edits": ("bench_after(bench, event)", "log_after(bench, log, event)"),
    "replaying": ("replayed(bench, rule, diary)",),
    "whatifs": ("span_after(bench, rule, event)",),
    "eventtexts": ("event_line(event)",),
    "eventreadings": ("read_event(text)",),
    "desk": ("desk(live, text)",),
}

GENERATORS = ("chains_of", "tables_of", "ends_of")

CLASSES = {
    ("benchclasses", "Bench"): (
        "__init__(self, bench)", "__len__(self)", "__iter__(self)", "__contains__(self, thing)", "__eq__(self, other)",
        "told(self)", "cut(self, low, high)", "face(self, slot, level)", "grow(self, chart)",
    ),
    ("chainclasses", "Chain"): (
        "__init__(self, bench, name)", "__len__(self)", "__contains__(self, thing)", "__eq__(self, other)",
        "members(self)", "within(self)", "up(self, point)", "down(self, point)", "number(self)", "following(self)",
        "partners(self, place)", "run(self)",
    ),
    ("tableclasses", "Table"): (
        "__init__(self, bench, table)", "__iter__(self)", "__eq__(self, other)", "__and__(self, other)",
        "__or__(self, other)", "grades(self)", "grade_of(self, point)", "rim(self)", "paper(self)",
        "change(self, point)", "face(self, slot, level)", "upside_down(self)",
    ),
    ("searchclasses", "Search"): (
        "__init__(self, bench)", "__eq__(self, other)", "next(self)", "tell(self, point, grade)", "undo(self)",
        "told(self)", "known(self)", "floor(self)", "ceiling(self)", "left(self)", "found(self)",
    ),
    ("finderclasses", "Finder"): (
        "__init__(self, bench, rule)", "__len__(self)", "__iter__(self)", "__eq__(self, other)", "next(self)",
        "tell(self, grade)", "told(self)", "undo(self)", "known(self)", "still(self)", "found(self)", "most(self)",
    ),
    ("logclasses", "Log"): (
        "__init__(self, bench, rule)", "__len__(self)", "__iter__(self)", "__eq__(self, other)", "add(self, point, grade)",
        "drop(self, index)", "answers(self)", "possible(self, point)", "sure(self)", "shown(self)", "two(self)",
        "fewest(self)",
    ),
    ("answererclasses", "Answerer"): (
        "__init__(self, bench, rule, table)", "__len__(self)", "__iter__(self)", "__eq__(self, other)",
        "answer(self, point)", "answers(self)", "lacking(self)", "pair(self)", "undo(self)",
    ),
    ("live", "LiveBench"): (
        "__init__(self, bench, rule)", "__len__(self)", "__iter__(self)", "__eq__(self, other)", "do(self, event)",
        "test(self, point, grade)", "come(self, chart, level)", "go(self, slot, level)", "set_rule(self, word, e)",
        "set_range(self, low, high)", "barred(self, event)", "tried(self, event)", "undo(self)",
        "do_all(self, events, keep=False)", "tally(self)", "diary(self)", "bench_now(self)", "rule_now(self)",
        "log_now(self)", "span_now(self)", "possible_now(self, point)", "sure_now(self)", "shown_now(self)",
        "next_now(self)", "lacking_now(self, table)",
    ),
}


def heading(name, value):
    return name + str(inspect.signature(value))


class Interface(unittest.TestCase):
    def test_functions(self):
        for module_name, headings in FUNCTIONS.items():
            module = importlib.import_module("stubbornest." + module_name)
            for wanted in headings:
                name = wanted.partition("(")[0]
                value = getattr(module, name)
                self.assertEqual(heading(name, value), wanted)
                self.assertEqual(value.__module__, module.__name__)
                self.assertEqual(inspect.isgeneratorfunction(value), name in GENERATORS)

    def test_classes(self):
        for (module_name, class_name), headings in CLASSES.items():
            value = getattr(importlib.import_module("stubbornest." + module_name), class_name)
            self.assertEqual(value.__module__, "stubbornest." + module_name)
            for wanted in headings:
                name = wanted.partition("(")[0]
                self.assertIn(name, vars(value))
                self.assertEqual(heading(name, vars(value)[name]), wanted)
