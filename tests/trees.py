"""Trees for the tests, and their ways done the slow way."""


def some_tree(rng, world, depth, share=0.3):
    """A tree of at most so many askings on a way, in which about this share of the branches are None."""
    if depth == 0 or rng.random() < 0.15:
        return "is", rng.choice(world.tables)
    branches = []
    for _ in range(world.top + 1):
        branches.append(None if rng.random() < share else some_tree(rng, world, depth - 1, share))
    return "ask", rng.choice(world.points), tuple(branches)


def pairs(tree, log=()):
    """The pairs (log, table or None) of all ends and Nones, in sequence."""
    if tree is None:
        yield log, None
    elif tree[0] == "is":
        yield log, tree[1]
    else:
        for grade, branch in enumerate(tree[2]):
            yield from pairs(branch, log + ((tree[1], grade),))


def way(tree, answer):
    """The pair at which one arrives if answer(log, point) tells the grades."""
    log = ()
    while tree is not None and tree[0] == "ask":
        grade = answer(log, tree[1])
        log, tree = log + ((tree[1], grade),), tree[2][grade]
    return log, None if tree is None else tree[1]


def bent(tree, place, part):
    """The tree with another part at this place, a sequence of grades; the way must be there."""
    if not place:
        return part
    branches = list(tree[2])
    branches[place[0]] = bent(branches[place[0]], place[1:], part)
    return tree[0], tree[1], tuple(branches)


def depth(tree):
    """The greatest number of askings on a way."""
    return max(len(log) for log, _ in pairs(tree))
