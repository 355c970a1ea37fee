"""Exceptional rows: those to which moves lead the rows of points."""

from timesthrough.base.values import are_short, is_integer
from timesthrough.count.steps import settle
from timesthrough.errors import InvalidNumber, InvalidOperation, TooMany
from timesthrough.rows.rows import FINITE_POINTS, MOST_DIGITS, check_few, check_many, product_of, product_with_cubic
from timesthrough.rows.tables import EXCEPTIONAL


def is_exceptional(row):
    """Whether the row has the square -1 and meets the cubic once."""
    check_few(row)
    return product_of(row, row) == -1 and product_with_cubic(row) == 1


def exceptional_rows(n):
    """All exceptional rows of 3 to 8 points, ascending."""
    check_many(n, FINITE_POINTS)
    if n == FINITE_POINTS:
        return EXCEPTIONAL
    behind = (0,) * (FINITE_POINTS - n)
    return tuple([row[:n + 1] for row in EXCEPTIONAL if row[n + 1:] == behind])


def word_to(row):
    """A word that makes this row of the last point's row."""
    if not is_exceptional(row):
        raise InvalidOperation("no exceptional row")
    word, _ = settle(row)
    return word[::-1]


def meetings(row):
    """The products of the row with all exceptional rows, in their order."""
    check_few(row, FINITE_POINTS)
    products = [product_of(row, other) for other in exceptional_rows(len(row) - 1)]
    if not are_short(products):
        raise TooMany(MOST_DIGITS)
    return tuple(products)


def met_by(row, number):
    """The exceptional rows that meet the row this number of times, ascending."""
    check_few(row, FINITE_POINTS)
    if not is_integer(number):
        raise InvalidNumber(number)
    return tuple([other for other in exceptional_rows(len(row) - 1) if product_of(row, other) == number])
