"""Rows: a degree and a number for each point."""

from timesthrough.base.values import are_short, is_from_to, is_integer
from timesthrough.errors import InvalidNumber, InvalidRow, TooMany

LEAST_POINTS = 3
MOST_POINTS = 16
MOST_DIGITS = 200

# Rows of general points, whose curves a rule tells, have at most so many points.
FEW_POINTS = 9

# There are finitely many exceptional rows, roots and maps of words for at most so many.
FINITE_POINTS = 8


def is_row(value):
    """Whether the value is a row of 3 to 16 points."""
    if not isinstance(value, tuple) or not LEAST_POINTS < len(value) <= MOST_POINTS + 1:
        return False
    return all([is_integer(entry) for entry in value])


def cubic(n):
    """The row of degree 3 with the number 1 for each of n points."""
    check_many(n, MOST_POINTS)
    return (3,) + (1,) * n


def line_row(n):
    """The row of degree 1 with the number 0 for each of n points."""
    check_many(n, MOST_POINTS)
    return (1,) + (0,) * n


def point_row(n, index):
    """The row that has -1 at one of n points and is 0 elsewhere."""
    check_many(n, MOST_POINTS)
    if not is_from_to(index, 0, n - 1):
        raise InvalidNumber(index)
    return (0,) * (index + 1) + (-1,) + (0,) * (n - 1 - index)


def product(one, other):
    """The product of the degrees less the sum of the products of the numbers."""
    check_rows(one, other)
    return product_of(one, other)


def square(row):
    """The product of a row with itself."""
    check_row(row)
    return product_of(row, row)


def with_cubic(row):
    """The product of a row with the cubic."""
    check_row(row)
    return product_with_cubic(row)


def counting(row):
    """The number of terms less the number of conditions, as a row by itself tells it."""
    check_row(row)
    return counting_of(row)


def genus(row):
    """Half the square less the product with the cubic, and 1."""
    check_row(row)
    return (product_of(row, row) - product_with_cubic(row)) // 2 + 1


def terms_of(row):
    """How many terms a polynomial of the degree can have."""
    check_row(row)
    degree = row[0]
    return 0 if degree < 0 else (degree + 1) * (degree + 2) // 2


def conditions_of(row):
    """How many conditions the numbers above 0 ask."""
    check_row(row)
    return sum([number * (number + 1) // 2 for number in row[1:] if number > 0])


def added(one, other):
    """The row of the sums of the entries."""
    check_rows(one, other)
    return short_row(plus_times(one, 1, other))


def less(one, other):
    """The row of the differences of the entries."""
    check_rows(one, other)
    return short_row(plus_times(one, -1, other))


def multiplied(count, row):
    """The row of the multiples of the entries."""
    if not is_integer(count):
        raise InvalidNumber(count)
    check_row(row)
    return short_row([count * entry for entry in row])


def check_many(n, most):
    """Raises InvalidNumber unless n is a number of points from 3 to the most."""
    if not is_from_to(n, LEAST_POINTS, most):
        raise InvalidNumber(n)


def check_row(row):
    """Raises InvalidRow unless the argument is a row."""
    if not is_row(row):
        raise InvalidRow("no row")


def check_rows(one, other):
    """Raises InvalidRow unless both are rows of as many points."""
    check_row(one)
    check_row(other)
    if len(one) != len(other):
        raise InvalidRow("a row of another number of points")


def check_few(row, most=FEW_POINTS):
    """Raises InvalidRow unless the argument is a row of at most so many points."""
    check_row(row)
    if len(row) > most + 1:
        raise InvalidRow("a row of too many points")


def short_row(entries):
    """The row of the entries; TooMany if one has more than 200 digits."""
    if not are_short(entries):
        raise TooMany(MOST_DIGITS)
    return tuple(entries)


def plus_times(one, times, other):
    """The sum of the entries of a row and of those of another one, so many times."""
    return tuple([left + times * right for left, right in zip(one, other)])


def product_of(one, other):
    """The product of two rows, or of what is like rows but has longer integers."""
    return 2 * one[0] * other[0] - sum([left * right for left, right in zip(one, other)])


def product_with_cubic(row):
    """The product with the cubic, also for longer integers."""
    return 3 * row[0] - sum(row[1:])


def counting_of(row):
    """The counting, also for longer integers."""
    return (product_of(row, row) + product_with_cubic(row)) // 2 + 1
