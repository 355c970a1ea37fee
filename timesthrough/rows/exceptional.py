"""Exceptional rows: those to which moves lead the rows of points."""

from timesthrough.base.values import are_short, is_integer, orders
from timesthrough.count.steps import settle
from timesthrough.errors import InvalidNumber, InvalidOperation, TooMany
from timesthrough.rows.moves import undone
from timesthrough.rows.rows import FINITE_POINTS, MOST_DIGITS, check_few, check_many, product_of, product_with_cubic

# The degrees of exceptional rows to eight points, and their numbers other than 0.
_PATTERNS = (
    (0, (-1,)),
    (1, (1, 1)),
    (2, (1, 1, 1, 1, 1)),
    (3, (2, 1, 1, 1, 1, 1, 1)),
    (4, (2, 2, 2, 1, 1, 1, 1, 1)),
    (5, (2, 2, 2, 2, 2, 2, 1, 1)),
    (6, (3, 2, 2, 2, 2, 2, 2, 2)),
)


def is_exceptional(row):
    """Whether the row has the square -1 and meets the cubic once."""
    check_few(row)
    return product_of(row, row) == -1 and product_with_cubic(row) == 1


def exceptional_rows(n):
    """All exceptional rows of 3 to 8 points, ascending."""
    check_many(n, FINITE_POINTS)
    found = []
    for degree, numbers in _PATTERNS:
        if len(numbers) <= n:
            filled = numbers + (0,) * (n - len(numbers))
            found.extend([(degree,) + order for order in orders(filled)])
    return tuple(sorted(found))


def word_to(row):
    """A word that makes this row of the last point's row."""
    if not is_exceptional(row):
        raise InvalidOperation("no exceptional row")
    word, _ = settle(row)
    return undone(word)


def meetings(row):
    """The products of the row with all exceptional rows, in their order."""
    check_few(row, FINITE_POINTS)
    products = [product_of(row, other) for other in exceptional_rows(len(row) - 1)]
    if not are_short(products):
        raise TooMany(MOST_DIGITS)
    return tuple(products)


def met_by(row, number):
    """The exceptional rows that meet the row this number of times, ascending."""
    check_few(row, FINITE_POINTS)
    if not is_integer(number):
        raise InvalidNumber(number)
    return tuple([other for other in exceptional_rows(len(row) - 1) if product_of(row, other) == number])
