"""Primes, and tables of rests over a prime."""

from timesthrough.base.values import is_from_to
from timesthrough.errors import InvalidNumber, InvalidTable

LEAST_PRIME = 5
MOST_PRIME = 65521
MAX_SIDE = 200

# Each number up to MOST_PRIME that is no prime has a divisor below this one.
_DIVISORS_END = 256


def is_prime(value):
    """Whether the value is a prime from LEAST_PRIME to MOST_PRIME."""
    if not is_from_to(value, LEAST_PRIME, MOST_PRIME):
        return False
    return all([value % divisor != 0 for divisor in range(2, _DIVISORS_END) if divisor < value])


def check_prime(prime):
    """Raises InvalidNumber unless the argument is a prime."""
    if not is_prime(prime):
        raise InvalidNumber(prime)


def are_rests(prime, value, many):
    """Whether the value is a tuple of so many rests; the prime was checked."""
    if not isinstance(value, tuple) or len(value) != many:
        return False
    return all([is_from_to(rest, 0, prime - 1) for rest in value])


def is_table(prime, value):
    """Whether the value is a table over the prime."""
    check_prime(prime)
    if not isinstance(value, tuple) or len(value) > MAX_SIDE:
        return False
    if not all([isinstance(row, tuple) for row in value]):
        return False
    width = _width(value)
    return width <= MAX_SIDE and all([are_rests(prime, row, width) for row in value])


def rank(prime, table):
    """How many rows the reduced table has."""
    return len(reduced(prime, table))


def reduced(prime, table):
    """The reduced table of the sums of multiples of the rows of a table."""
    _check_table(prime, table)
    return tuple(reduced_rows(prime, table, _width(table)))


def kernel(prime, table):
    """The reduced table of all tuples whose product with the table is all 0."""
    _check_table(prime, table)
    return tuple(kernel_rows(prime, table, _width(table)))


def solution(prime, table, goal):
    """The tuple whose product with the table is the goal, or None."""
    _check_goal(prime, table, goal)
    width = _width(table)
    longer = [row + (rest,) for row, rest in zip(table, goal)]
    found = [0] * width
    for row in reduced_rows(prime, longer, width + 1):
        column = leading_column(row)
        if column == width:
            return None
        found[column] = row[width]
    return tuple(found)


def goal_bar(prime, table, goal):
    """Factors for the rows that show that no tuple has the goal as product, or None."""
    _check_goal(prime, table, goal)
    columns = [[row[column] for row in table] for column in range(_width(table))]
    for factors in kernel_rows(prime, columns, len(table)):
        rest = rest_of_product(prime, factors, goal)
        if rest != 0:
            scale = inverse(prime, rest)
            return tuple([factor * scale % prime for factor in factors])
    return None


def is_goal_bar(prime, table, goal, value):
    """Whether the value is a bar of the goal."""
    _check_goal(prime, table, goal)
    if not are_rests(prime, value, len(table)):
        return False
    for column in range(_width(table)):
        if rest_of_product(prime, value, [row[column] for row in table]) != 0:
            return False
    return rest_of_product(prime, value, goal) == 1


def inverse(prime, rest):
    """The rest whose product with a rest other than 0 is 1."""
    low, high = rest, prime
    factor, other = 1, 0
    # low is always factor times the rest, and high is other times it, modulo the prime.
    while low > 1:
        times = high // low
        low, high = high - times * low, low
        factor, other = other - times * factor, factor
    return factor % prime


def rest_of_product(prime, one, other):
    """The sum of the products of the members of two sequences, modulo the prime."""
    return sum([left * right for left, right in zip(one, other)]) % prime


def reduced_rows(prime, table, width):
    """The rows of the reduced table, as tuples; nothing is checked."""
    rows = [list(row) for row in table]
    many = 0
    for column in range(width):
        at = _filled_row(rows, many, column)
        if at is not None:
            rows[many], rows[at] = rows[at], rows[many]
            _clear_column(prime, rows, many, column)
            many += 1
    return [tuple(row) for row in rows[:many]]


def kernel_rows(prime, table, width):
    """The rows of the kernel of a table with so many columns; nothing is checked."""
    # With the columns turned round, each leading one is the last rest of its row
    # that is not 0: then the tuples below are reduced as they are.
    turned = reduced_rows(prime, [row[::-1] for row in table], width)
    leads = {width - 1 - leading_column(row): row[::-1] for row in turned}
    found = []
    for free in range(width):
        if free not in leads:
            rests = [0] * width
            rests[free] = 1
            for column in leads:
                rests[column] = -leads[column][free] % prime
            found.append(tuple(rests))
    return found


def leading_column(row):
    """The column of the first rest of a row that is not 0."""
    column = 0
    while row[column] == 0:
        column += 1
    return column


def _width(table):
    return len(table[0]) if len(table) > 0 else 0


def _check_table(prime, table):
    if not is_table(prime, table):
        raise InvalidTable("no table over the prime")


def _check_goal(prime, table, goal):
    _check_table(prime, table)
    if not are_rests(prime, goal, len(table)):
        raise InvalidTable("no goal of the table")


def _filled_row(rows, first, column):
    for at in range(first, len(rows)):
        if rows[at][column] != 0:
            return at
    return None


def _clear_column(prime, rows, many, column):
    """Makes the row at index many a leading one, and all others 0 at its column."""
    scale = inverse(prime, rows[many][column])
    lead = [rest * scale % prime for rest in rows[many][column:]]
    rows[many][column:] = lead
    for at in range(len(rows)):
        times = rows[at][column]
        if at != many and times != 0:
            tail = rows[at][column:]
            rows[at][column:] = [(rest - times * led) % prime for rest, led in zip(tail, lead)]
