"""Rays: how the free parts of sums of two rows change with how often each row is taken."""

from timesthrough.base.values import are_short, greatest_divisor, is_from_to
from timesthrough.count.parts import taken_off
from timesthrough.count.steps import barring, settle
from timesthrough.errors import InvalidNumber, Refused, TooMany
from timesthrough.rows.rows import FINITE_POINTS, MOST_DIGITS, check_few, check_rows, plus_times, product_of
from timesthrough.rows.rows import product_with_cubic


def rays(one, other):
    """The rays of two rows, from (1, 0) to (0, 1)."""
    found = _rays(_met_below(one, other))
    for ray in found:
        if not are_short(ray):
            raise TooMany(MOST_DIGITS)
    return tuple(found)


def stretch_rows(one, other, index):
    """The exceptional rows that all rows inside a stretch meet below 0, ascending."""
    return tuple([row for row, _, _ in _met_inside(one, other, index)])


def stretch_counts(one, other, index):
    """The five integers that tell the counts of a stretch."""
    free, other_free = one, other
    for row, left, right in _met_inside(one, other, index):
        free = plus_times(free, left, row)
        other_free = plus_times(other_free, right, row)
    squares = (product_of(free, free), 2 * product_of(free, other_free), product_of(other_free, other_free))
    found = squares + (product_with_cubic(free), product_with_cubic(other_free))
    if not are_short(found):
        raise TooMany(MOST_DIGITS)
    return found


def are_free_together(one, other):
    """Whether the free row of the sum is the sum of both free rows."""
    return not any([left * right < 0 for _, left, right in _met_below(one, other)])


def _met_below(one, other):
    """The exceptional rows that one of two rows with curves meets below 0, ascending.

    Each stands with its products with both rows. No other exceptional row has products of
    unlike signs with them, or is met below 0 by a sum of multiples of both.
    """
    check_few(one, FINITE_POINTS)
    check_rows(one, other)
    below = {}
    for at, row in enumerate((one, other)):
        word, end = settle(row)
        if barring(end) is not None:
            raise Refused(("none", at))
        for met in taken_off(word, end):
            below[met] = True
    return [(met, product_of(one, met), product_of(other, met)) for met in sorted(list(below))]


def _met_inside(one, other, index):
    """Those of the rows, with their products, that all rows inside a stretch meet below 0."""
    met = _met_below(one, other)
    found = _rays(met)
    if not is_from_to(index, 0, len(found) - 2):
        raise InvalidNumber(index)
    # The sum of the two rays at the ends is inside.
    (a, b), (c, d) = found[index], found[index + 1]
    return [(row, left, right) for row, left, right in met if (a + c) * left + (b + d) * right < 0]


def _rays(met):
    """The rays of two rows by what they meet, with integers of any length."""
    found = {(1, 0): True, (0, 1): True}
    for _, left, right in met:
        if left * right < 0:
            common = greatest_divisor((left, right))
            found[abs(right) // common, abs(left) // common] = True
    # Two fractions differ by at least 1 / most / most: so they differ behind this factor, too.
    most = max([a for a, _ in found])
    inner = sorted([(b * most * most // a, a, b) for a, b in found if a > 0])
    return [(a, b) for _, a, b in inner] + [(0, 1)]
