"""What a log without wrong answers still lacks to judge a table."""

from stubbornest.benchkinds import is_rule
from stubbornest.errors import NotUsable
from stubbornest.logkinds import is_log
from stubbornest.logs import grades_at, wrong_numbers
from stubbornest.refusals import require
from stubbornest.rims import movable
from stubbornest.tablekinds import is_table
from stubbornest.tables import answers_of


def rim_facts(bench, table):
    """For each point of the rim, ascending: (the table's grade, the other one by changed, whether it is raisable)."""
    up, down = movable(bench, table)
    facts = {}
    for number, (point, grade) in enumerate(answers_of(bench, table)):
        if up[number]:
            facts[point] = (grade, grade + 1, True)
        elif down[number]:
            facts[point] = (grade, grade - 1, False)
    return facts


def lacks(rule, fact, right):
    """Whether a point of the rim lacks behind so many right answers."""
    word, wrongs = rule
    if word in ("all", "each") or fact[2]:
        return right <= wrongs
    return right == 0


def lacking_by(rule, facts, log):
    """The pairs (point, how many answers are right there) of the points that lack, ascending."""
    rows = [(point, grades_at(log, point).count(facts[point][0])) for point in facts]
    return [(point, right) for point, right in rows if lacks(rule, facts[point], right)]


def checked_facts(bench, rule, log, table):
    """The rim_facts; refuses what cannot be used, wrong answers last."""
    require(is_rule(bench[3], rule), "rule")
    require(is_log(bench, log), "log")
    require(is_table(bench, table), "table")
    wrong = wrong_numbers(bench, log, table)
    if wrong:
        raise NotUsable("log", wrong[0])
    return rim_facts(bench, table)


def lacking_points(bench, rule, log, table):
    """The set of the points that lack."""
    facts = checked_facts(bench, rule, log, table)
    return tuple([point for point, _ in lacking_by(rule, facts, log)])


def lacking(bench, rule, log, table):
    """The least number of further tests that judge the table in any case."""
    facts = checked_facts(bench, rule, log, table)
    word, wrongs = rule
    short = lacking_by(rule, facts, log)
    if word == "yes":
        return yes_lacking(wrongs, facts, short)
    spare = 2 * wrongs if word == "each" else wrongs
    total = sum([spare + 1 - right for _, right in short])
    return total + wrongs if word == "all" and short else total


def yes_lacking(wrongs, facts, short):
    """The same under "yes", by the points that lack."""
    rising = sum([wrongs + 1 - right for point, right in short if facts[point][2]])
    sinking = len([point for point, _ in short if not facts[point][2]])
    return rising if sinking == 0 else sinking + max(rising, wrongs)
