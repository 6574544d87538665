"""The chain whose turn it is, its stretches, and the grade that is wanted."""

from stubbornest.benches import points_of, sides_of
from stubbornest.knowns import is_threshold, known_bounds
from stubbornest.listings import chains_of, names_by_size, points_on
from stubbornest.refusals import require


def rows_of(bench):
    """The numbers of the points on each chain that has one, in the sequence of names_by_size."""
    numbers = {point: number for number, point in enumerate(points_of(bench))}
    return [[numbers[point] for point in row] for row in chains_of(bench)]


def frame_of(bench):
    """The triple (points, sides_of them, rows_of the bench), by which many tests are chosen."""
    points = points_of(bench)
    return points, sides_of(bench, points), rows_of(bench)


def unsettled_on(bounds, row):
    """Those numbers of the row at which the floor and the ceiling differ."""
    floor, ceiling = bounds
    return [number for number in row if floor[number] != ceiling[number]]


def open_on(bounds, row, grade):
    """Those numbers of the row at which the grade is open."""
    floor, ceiling = bounds
    return [number for number in row if floor[number] < grade <= ceiling[number]]


def row_due(rows, bounds):
    """The index of the first row with a point that is not settled; None if there is none."""
    for index, row in enumerate(rows):
        if unsettled_on(bounds, row):
            return index
    return None


def least_open(bounds, row):
    """The least grade that is open on the row, which has a point that is not settled."""
    floor = bounds[0]
    # What is open first at such a point is the grade next above its floor.
    return min([floor[number] for number in unsettled_on(bounds, row)]) + 1


def stretch_due(rows, bounds):
    """The numbers of the stretch that is tested next; [] if all points are settled."""
    index = row_due(rows, bounds)
    if index is None:
        return []
    row = rows[index]
    return open_on(bounds, row, least_open(bounds, row))


def wanted(bench, known):
    """The pair of chain_due and the least grade that is open on this chain; None if all points are settled."""
    bounds = known_bounds(bench, known)
    rows = rows_of(bench)
    index = row_due(rows, bounds)
    if index is None:
        return None
    return names_by_size(bench)[index], least_open(bounds, rows[index])


def chain_due(bench, known):
    """The name of the first chain with a point that is not settled; None if all points are settled."""
    pair = wanted(bench, known)
    return None if pair is None else pair[0]


def row_on(bench, name):
    """The numbers of the points of the bench on the chain with this name, upward."""
    points = points_of(bench)
    return [points.index(point) for point in points_on(bench, name)]


def stretch(bench, known, name, grade):
    """The points of the bench on the chain at which the grade is open, upward."""
    bounds = known_bounds(bench, known)
    row = row_on(bench, name)
    require(is_threshold(bench, grade), "grade")
    points = points_of(bench)
    return tuple([points[number] for number in open_on(bounds, row, grade)])
