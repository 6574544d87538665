"""Charts of common slots."""

from stubbornest.kinds import is_index
from stubbornest.refusals import require


def require_many(least, most, many):
    """Refuses a many that is no number from least to most."""
    require(is_index(most + 1, many) and many >= least, "many")


def rungs(many):
    """The chart whose levels 0 to many - 1 are on one chain."""
    lowers = [()] + [(level,) for level in range(many - 1)]
    return tuple(lowers), (tuple(range(many)),)


def switch():
    """Off and on."""
    return rungs(2)


def dial():
    """Three levels, one above the other."""
    return rungs(3)


def pick(many):
    """Nothing, one of many makes, all that any make can do."""
    require_many(1, 62, many)
    makes = tuple(range(1, many + 1))
    lowers = [()] + [(0,) for _ in makes] + [makes]
    chains = [(0, 1, many + 1)] + [(make,) for make in makes[1:]]
    return tuple(lowers), tuple(chains)


def ring(many):
    """The corners and the sides of a polygon, between nothing and all of it."""
    require_many(2, 31, many)
    corners = range(1, many + 1)
    sides = [(corner, corner + 1) for corner in range(1, many)] + [(1, many)]
    last = tuple(range(many + 1, 2 * many + 1))
    lowers = [()] + [(0,) for _ in corners] + sides + [last]
    chains = [(0, 1, many + 1, 2 * many + 1)] + [(corner, many + corner) for corner in range(2, many + 1)]
    return tuple(lowers), tuple(chains)


def flat(many):
    """Levels of which none is below another one."""
    require_many(1, 64, many)
    return tuple([() for _ in range(many)]), tuple([(level,) for level in range(many)])


def ladder(many):
    """Levels on one chain."""
    require_many(1, 64, many)
    return rungs(many)
