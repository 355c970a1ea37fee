"""Free rows, rows of one curve, and pencils."""

from timesthrough.count.steps import is_cubic_times, is_free_row, is_level_or_below, settle, stands
from timesthrough.errors import InvalidOperation
from timesthrough.rows.exceptional import is_exceptional
from timesthrough.rows.moves import is_word, led_back, moved_far
from timesthrough.rows.rows import FEW_POINTS, check_few, cubic, is_row, point_row, product_of, product_with_cubic


def is_free(row):
    """Whether some word makes a standard row of the row."""
    check_few(row)
    return is_free_row(row)


def free_word(row):
    """A word that makes a standard row of the row, None if it is not free."""
    check_few(row)
    if is_level_or_below(row):
        return () if is_cubic_times(row) else None
    word, end = settle(row)
    return word if stands(end) else None


def is_free_word(row, value):
    """Whether the value is a word that makes a standard row of the row."""
    if not is_free(row):
        return False
    return is_word(len(row) - 1, value) and stands(moved_far(row, value))


def met(row):
    """A bar of freedom, None if the row is free."""
    check_few(row)
    many = len(row) - 1
    if is_level_or_below(row):
        return None if is_cubic_times(row) else cubic(many)
    word, end = settle(row)
    # The settled row would be standard if its last number were not below 0.
    return None if stands(end) else led_back(point_row(many, many - 1), word)


def is_met(row, value):
    """Whether the value is a bar of freedom of the row."""
    if is_free(row) or not is_row(value) or len(value) != len(row):
        return False
    if is_level_or_below(row) and value == cubic(FEW_POINTS):
        return True
    return is_exceptional(value) and product_of(row, value) < 0


def is_one_curve(row):
    """Whether the row has a curve without parts."""
    if is_free(row) and product_of(row, row) > 0:
        return True
    if is_exceptional(row) or row == cubic(FEW_POINTS):
        return True
    found = pencil_of(row)
    return found is not None and found[0] == 1


def pencil_of(row):
    """How many times which pencil the row is, None if it is not."""
    check_few(row)
    if is_level_or_below(row):
        return None
    _, end = settle(row)
    times = end[0]
    if times <= 0 or end != (times, times) + (0,) * (len(end) - 2):
        return None
    return (times, tuple([entry // times for entry in row]))


def has_base_point(row):
    """Whether all curves of the free row pass through one further point."""
    if not is_free(row):
        raise InvalidOperation("a row that is not free")
    return product_with_cubic(row) == 1
