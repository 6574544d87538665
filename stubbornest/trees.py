"""The ends and Nones of a tree, and the way to one of them."""

from stubbornest.refusals import require
from stubbornest.tablekinds import is_table
from stubbornest.tables import answers_of
from stubbornest.treekinds import is_tree


def end_pairs(tree, log):
    """The pairs of ends_of in a tree or None behind the answers of the log."""
    if tree is None:
        return [(log, None)]
    if tree[0] == "is":
        return [(log, tree[1])]
    pairs = []
    for grade, branch in enumerate(tree[2]):
        pairs.extend(end_pairs(branch, log + ((tree[1], grade),)))
    return pairs


def ends_of(bench, tree):
    """Yields the pair (log of the way, table or None) of each end and each None."""
    require(is_tree(bench, tree), "tree")
    for log, told in end_pairs(tree, ()):
        yield log, told


def is_asking(tree):
    """Whether the tree or None is an asking."""
    return tree is not None and tree[0] == "ask"


def told_at(end):
    """The table of an end; None for a None."""
    return None if end is None else end[1]


def end_by(bench, tree, table):
    """The pair of ends_of at which one arrives by the table's grades."""
    require(is_tree(bench, tree), "tree")
    require(is_table(bench, table), "table")
    grades = dict(answers_of(bench, table))
    log = ()
    while is_asking(tree):
        point = tree[1]
        log = log + ((point, grades[point]),)
        tree = tree[2][grades[point]]
    return log, told_at(tree)
