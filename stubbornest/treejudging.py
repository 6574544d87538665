"""How deep a tree is, and whether it is right."""

from stubbornest.benchkinds import is_rule
from stubbornest.fittings import Fittings
from stubbornest.refusals import require
from stubbornest.treekinds import is_tree
from stubbornest.trees import end_pairs


def checked_pairs(bench, rule, tree):
    """The pairs of ends_of; refuses what is no rule or no tree."""
    require(is_rule(bench[3], rule), "rule")
    require(is_tree(bench, tree), "tree")
    return end_pairs(tree, ())


def depth_of(bench, rule, tree):
    """The greatest length of a log of an end that some table fits; -1 if there is none."""
    ends = [log for log, told in checked_pairs(bench, rule, tree) if told is not None]
    return max([len(log) for log in ends if Fittings(bench, rule, log).first() is not None], default=-1)


def other_fit(bench, rule, log, told):
    """Some table that fits the log and is not told; None if there is none."""
    fittings = Fittings(bench, rule, log)
    table = fittings.first()
    return fittings.second(table) if table is not None and table == told else table


def first_wrong(bench, rule, tree):
    """The triple (log, told, other table that fits) of the first wrong end or None; None if the tree is right."""
    for log, told in checked_pairs(bench, rule, tree):
        other = other_fit(bench, rule, log, told)
        if other is not None:
            return log, told, other
    return None


def is_right(bench, rule, tree):
    """Whether none of the ends and Nones is wrong."""
    return first_wrong(bench, rule, tree) is None
