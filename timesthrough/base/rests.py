"""Primes, and tables of rests over a prime."""

from timesthrough.base.values import is_from_to
from timesthrough.errors import InvalidNumber, InvalidTable

LEAST_PRIME = 5
MOST_PRIME = 65521
MAX_SIDE = 200

# A digit has so many bits: to none more than 200 times a product of two rests are added.
_DIGIT = 48
_MOST_IN_DIGIT = 2 ** 48 - 1

# Each number up to MOST_PRIME that is no prime has a divisor below this one.
_DIVISORS_END = 256


def is_prime(value):
    """Whether the value is a prime from LEAST_PRIME to MOST_PRIME."""
    if not is_from_to(value, LEAST_PRIME, MOST_PRIME):
        return False
    return all([value % divisor != 0 for divisor in range(2, _DIVISORS_END) if divisor < value])


def check_prime(prime):
    """Raises InvalidNumber unless the argument is a prime."""
    if not is_prime(prime):
        raise InvalidNumber(prime)


def are_rests(prime, value, many):
    """Whether the value is a tuple of so many rests; the prime was checked."""
    if not isinstance(value, tuple) or len(value) != many:
        return False
    return all([is_from_to(rest, 0, prime - 1) for rest in value])


def is_table(prime, value):
    """Whether the value is a table over the prime."""
    check_prime(prime)
    if not isinstance(value, tuple) or len(value) > MAX_SIDE:
        return False
    if not all([isinstance(row, tuple) for row in value]):
        return False
    width = _width(value)
    return width <= MAX_SIDE and all([are_rests(prime, row, width) for row in value])


def rank(prime, table):
    """How many rows the reduced table has."""
    _check_table(prime, table)
    return rank_of(prime, table, _width(table))


def reduced(prime, table):
    """The reduced table of the sums of multiples of the rows of a table."""
    _check_table(prime, table)
    return tuple(reduced_rows(prime, table, _width(table)))


def kernel(prime, table):
    """The reduced table of all tuples whose product with the table is all 0."""
    _check_table(prime, table)
    return tuple(kernel_rows(prime, table, _width(table)))


def solution(prime, table, goal):
    """The tuple whose product with the table is the goal, or None."""
    _check_goal(prime, table, goal)
    width = _width(table)
    longer = [row + (rest,) for row, rest in zip(table, goal)]
    found = [0] * width
    for row in reduced_rows(prime, longer, width + 1):
        column = leading_column(row)
        if column == width:
            return None
        found[column] = row[width]
    return tuple(found)


def goal_bar(prime, table, goal):
    """Factors for the rows that show that no tuple has the goal as product, or None."""
    _check_goal(prime, table, goal)
    columns = [[row[column] for row in table] for column in range(_width(table))]
    for factors in kernel_rows(prime, columns, len(table)):
        rest = rest_of_product(prime, factors, goal)
        if rest != 0:
            scale = inverse(prime, rest)
            return tuple([factor * scale % prime for factor in factors])
    return None


def is_goal_bar(prime, table, goal, value):
    """Whether the value is a bar of the goal."""
    _check_goal(prime, table, goal)
    if not are_rests(prime, value, len(table)):
        return False
    for column in range(_width(table)):
        if rest_of_product(prime, value, [row[column] for row in table]) != 0:
            return False
    return rest_of_product(prime, value, goal) == 1


def inverse(prime, rest):
    """The rest whose product with a rest other than 0 is 1."""
    low, high = rest, prime
    factor, other = 1, 0
    # low is always factor times the rest, and high is other times it, modulo the prime.
    while low > 1:
        times = high // low
        low, high = high - times * low, low
        factor, other = other - times * factor, factor
    return factor % prime


def rest_of_product(prime, one, other):
    """The sum of the products of the members of two sequences, modulo the prime."""
    return sum([left * right for left, right in zip(one, other)]) % prime


def reduced_rows(prime, table, width):
    """The rows of the reduced table, as tuples; nothing is checked."""
    return [tuple(_digits(prime, number, width)) for number in _reduced_numbers(prime, table, width)]


def rank_of(prime, table, width):
    """The rank of a table with so many columns; nothing is checked."""
    return len(_reduced_numbers(prime, table, width))


def kernel_rows(prime, table, width):
    """The rows of the kernel of a table with so many columns; nothing is checked."""
    # With the columns turned round, each leading one is the last rest of its row
    # that is not 0: then the tuples below are reduced as they are.
    turned = reduced_rows(prime, [row[::-1] for row in table], width)
    leads = {width - 1 - leading_column(row): row[::-1] for row in turned}
    found = []
    for free in range(width):
        if free not in leads:
            rests = [0] * width
            rests[free] = 1
            for column in leads:
                rests[column] = -leads[column][free] % prime
            found.append(tuple(rests))
    return found


def leading_column(row):
    """The column of the first rest of a row that is not 0."""
    column = 0
    while row[column] == 0:
        column += 1
    return column


def _width(table):
    return len(table[0]) if len(table) > 0 else 0


def _check_table(prime, table):
    if not is_table(prime, table):
        raise InvalidTable("no table over the prime")


def _check_goal(prime, table, goal):
    _check_table(prime, table)
    if not are_rests(prime, goal, len(table)):
        raise InvalidTable("no goal of the table")


def _reduced_numbers(prime, table, width):
    """The rows of the reduced table, each as a number that has its rests as digits, modulo the prime.

    So a multiple of a row is added to another one at one go.
    """
    numbers = [_number(row) for row in table]
    many = 0
    for column in range(width):
        if many == len(numbers):
            break
        place = _DIGIT * (width - 1 - column)
        rests = [(number >> place & _MOST_IN_DIGIT) % prime for number in numbers]
        at = _filled(rests, many)
        if at is not None:
            scale = inverse(prime, rests[at])
            lead = _number([rest * scale % prime for rest in _digits(prime, numbers[at], width)])
            numbers[at], rests[at] = numbers[many], rests[many]
            numbers[many], rests[many] = lead, 0
            numbers = [number + (prime - rest) * lead if rest != 0 else number for number, rest in zip(numbers, rests)]
            many += 1
    return numbers[:many]


def _number(rests):
    total = 0
    for rest in rests:
        total = (total << _DIGIT) + rest
    return total


def _digits(prime, number, width):
    """The digits of a number, modulo the prime."""
    found = []
    for _ in range(width):
        found.append((number & _MOST_IN_DIGIT) % prime)
        number = number >> _DIGIT
    return found[::-1]


def _filled(rests, first):
    """The least index from the first one on at which a rest is not 0, None if there is none."""
    for at in range(first, len(rests)):
        if rests[at] != 0:
            return at
    return None
