"""The next test."""

from stubbornest.benches import points_of
from stubbornest.knowns import known_bounds
from stubbornest.turns import rows_of, stretch_due


def number_asked(rows, bounds, uppermost):
    """The number of the point that is tested next, the uppermost or a middle one of its stretch; None at the end."""
    numbers = stretch_due(rows, bounds)
    if not numbers:
        return None
    return numbers[-1] if uppermost else numbers[len(numbers) // 2]


def point_asked(bench, known, uppermost):
    """The point with the number of number_asked; None at the end."""
    number = number_asked(rows_of(bench), known_bounds(bench, known), uppermost)
    return None if number is None else points_of(bench)[number]


def next_test(bench, known):
    """The point that is tested next; None if all points are settled."""
    return point_asked(bench, known, False)
