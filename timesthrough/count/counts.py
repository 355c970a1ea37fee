"""How many curves rows have at general points, and bars that show that there are none."""

from timesthrough.count.steps import barring, finish, is_cubic_times, is_free_row, is_level_or_below, settle
from timesthrough.errors import InvalidPoints, TooMany
from timesthrough.plane.forms import count_at
from timesthrough.plane.points import are_points
from timesthrough.rows.moves import led_back
from timesthrough.rows.rows import check_few, counting_of, cubic, is_row, product_of


def count(row):
    """The count of the row at general points."""
    check_few(row)
    if is_level_or_below(row):
        return 1 if is_cubic_times(row) else 0
    _, end = settle(row)
    if barring(end) is not None:
        return 0
    _, standard = finish(end)
    return counting_of(standard)


def has_curves(row):
    """Whether the count is at least 1."""
    check_few(row)
    if is_level_or_below(row):
        return is_cubic_times(row)
    _, end = settle(row)
    return barring(end) is None


def bar(row):
    """A bar of the row, None if it has curves."""
    check_few(row)
    if is_level_or_below(row):
        return None if is_cubic_times(row) else cubic(len(row) - 1)
    word, end = settle(row)
    plain = barring(end)
    return None if plain is None else led_back(plain, word)


def is_bar(row, value):
    """Whether the value is a bar of the row."""
    check_few(row)
    if not is_row(value) or len(value) != len(row):
        return False
    if is_level_or_below(row) and value == cubic(len(row) - 1):
        return not is_cubic_times(row)
    return product_of(row, value) < 0 and _is_free_and_near(value)


def shows_no_more(row, prime, points):
    """Whether the count at these told points is the count of the row."""
    check_few(row)
    if not are_points(prime, points) or len(points) != len(row) - 1:
        raise InvalidPoints("not as many points as the row has")
    general = count(row)
    return count_at(prime, points, row) == general


def _is_free_and_near(row):
    """Whether moves lead the row to a standard row, and it is not too far."""
    try:
        return is_free_row(row)
    except TooMany:
        return False
