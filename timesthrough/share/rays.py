"""Rays: how the free parts of sums of two rows change with how often each row is taken."""

from timesthrough.base.values import are_short, greatest_divisor, is_from_to
from timesthrough.count.counts import has_curves
from timesthrough.errors import InvalidNumber, Refused, TooMany
from timesthrough.rows.exceptional import exceptional_rows
from timesthrough.rows.rows import FINITE_POINTS, MOST_DIGITS, check_few, check_rows, plus_times, product_of
from timesthrough.rows.rows import product_with_cubic


def rays(one, other):
    """The rays of two rows, from (1, 0) to (0, 1)."""
    _check_two(one, other)
    found = _rays(one, other)
    for ray in found:
        if not are_short(ray):
            raise TooMany(MOST_DIGITS)
    return tuple(found)


def stretch_rows(one, other, index):
    """The exceptional rows that all rows inside a stretch meet below 0, ascending."""
    _check_two(one, other)
    return tuple(_stretch_rows(one, other, index))


def stretch_counts(one, other, index):
    """The five integers that tell the counts of a stretch."""
    _check_two(one, other)
    free, other_free = one, other
    for row in _stretch_rows(one, other, index):
        free = plus_times(free, product_of(one, row), row)
        other_free = plus_times(other_free, product_of(other, row), row)
    squares = (product_of(free, free), 2 * product_of(free, other_free), product_of(other_free, other_free))
    found = squares + (product_with_cubic(free), product_with_cubic(other_free))
    if not are_short(found):
        raise TooMany(MOST_DIGITS)
    return found


def are_free_together(one, other):
    """Whether the free row of the sum is the sum of both free rows."""
    _check_two(one, other)
    return not any([left * right < 0 for left, right in _meetings(one, other)])


def _check_two(one, other):
    check_few(one, FINITE_POINTS)
    check_rows(one, other)
    for at, row in enumerate((one, other)):
        if not has_curves(row):
            raise Refused(("none", at))


def _meetings(one, other):
    """The pairs of the products of the exceptional rows with both rows."""
    rows = exceptional_rows(len(one) - 1)
    return [(product_of(one, row), product_of(other, row)) for row in rows]


def _rays(one, other):
    """The rays, with integers of any length."""
    found = {(1, 0): True, (0, 1): True}
    for left, right in _meetings(one, other):
        if left * right < 0:
            common = greatest_divisor((left, right))
            found[abs(right) // common, abs(left) // common] = True
    # Two fractions differ by at least 1 / most / most: so they differ behind this factor, too.
    most = max([a for a, _ in found])
    inner = sorted([(b * most * most // a, a, b) for a, b in found if a > 0])
    return [(a, b) for _, a, b in inner] + [(0, 1)]


def _stretch_rows(one, other, index):
    found = _rays(one, other)
    if not is_from_to(index, 0, len(found) - 2):
        raise InvalidNumber(index)
    # The sum of the two rays at the ends is inside.
    (a, b), (c, d) = found[index], found[index + 1]
    rows = exceptional_rows(len(one) - 1)
    return [row for row in rows if (a + c) * product_of(one, row) + (b + d) * product_of(other, row) < 0]
