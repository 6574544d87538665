"""Beating a tree by the answerer of a table."""

from stubbornest.answering import answerer_of, grade_told, pair_left
from stubbornest.refusals import require
from stubbornest.treekinds import is_tree
from stubbornest.trees import is_asking, told_at


def beaten(bench, rule, table, tree):
    """The triple (log, told, another table that fits) at the end of the answerer's way; None if it cannot be told."""
    answerer = answerer_of(bench, rule, table)
    require(is_tree(bench, tree), "tree")
    log = ()
    while is_asking(tree):
        point = tree[1]
        grade = grade_told(answerer, log, point)
        log = log + ((point, grade),)
        tree = tree[2][grade]
    told = told_at(tree)
    pair = pair_left(bench, answerer, log)
    others = [other for other in pair or (table,) if other != told]
    return (log, told, others[0]) if others else None
