"""The least number of tests, by going through all plans."""

from stubbornest.benchkinds import is_rule
from stubbornest.refusals import require
from stubbornest.tables import tables_of


def is_barred(rule, grade):
    """Whether an answer with this grade is never wrong."""
    return rule[0] == "yes" and grade == 1


def state_behind(rule, state, number, grade):
    """What is left of the pairs (table, how many answers were wrong) behind one more answer."""
    more = []
    for table, wrong in state:
        if table[number] == grade:
            more.append((table, wrong))
        elif wrong < rule[1] and not is_barred(rule, grade):
            more.append((table, wrong + 1))
    return tuple(more)


def states_behind(bench, rule, state, number):
    """The states behind the answers to a test of the point with this number that can come."""
    states = [state_behind(rule, state, number, grade) for grade in range(bench[3] + 1)]
    return [behind for behind in states if behind]


def worth_of(bench, rule, worths, state):
    """How many tests are needed from this state on; worths keeps what is found."""
    if len(state) == 1:
        return 0
    if state not in worths:
        found = []
        for number in range(len(state[0][0])):
            states = states_behind(bench, rule, state, number)
            # A test that may leave everything as it is never helps.
            if state not in states:
                found.append(1 + max([worth_of(bench, rule, worths, behind) for behind in states]))
        worths[state] = min(found)
    return worths[state]


def whole_game(bench, rule):
    """The least number of the bench and the rule."""
    require(is_rule(bench[3], rule) and rule[0] in ("all", "yes"), "rule")
    state = tuple([(table, 0) for table in tables_of(bench)])
    return worth_of(bench, rule, {}, state)
