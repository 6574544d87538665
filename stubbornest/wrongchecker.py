"""The checker of triples which show that a tree is not right."""

from stubbornest.benchkinds import is_rule
from stubbornest.errors import InvalidPaper
from stubbornest.logkinds import is_log
from stubbornest.logs import is_fit
from stubbornest.refusals import require
from stubbornest.tablekinds import is_table
from stubbornest.treekinds import is_tree
from stubbornest.trees import end_pairs


def lets_wrong(bench, rule, tree, thing):
    """How many answers the log has; InvalidPaper for the first entry that applies."""
    require(is_rule(bench[3], rule), "rule")
    require(is_tree(bench, tree), "tree")
    if not isinstance(thing, tuple) or len(thing) != 3:
        raise InvalidPaper("shape", -1)
    log, told, other = thing
    check_way(bench, tree, log, told)
    if not is_table(bench, other):
        raise InvalidPaper("table", -1)
    if other == told:
        raise InvalidPaper("same", -1)
    if not is_fit(bench, rule, log, other):
        raise InvalidPaper("fits", -1)
    return len(log)


def check_way(bench, tree, log, told):
    """The entries "log", "way" and "told"."""
    if not is_log(bench, log):
        raise InvalidPaper("log", -1)
    ends = [end for way, end in end_pairs(tree, ()) if way == log]
    if not ends:
        raise InvalidPaper("way", -1)
    # Told may be any value, and True is not 1.
    if not (told is None or is_table(bench, told)) or told != ends[0]:
        raise InvalidPaper("told", -1)
