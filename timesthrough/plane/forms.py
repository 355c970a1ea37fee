"""Polynomials in three unknowns over a prime, and those that pass through points."""

from timesthrough.base.rests import check_prime, kernel_rows, rank_of
from timesthrough.base.values import is_from_to
from timesthrough.errors import InvalidForm, InvalidNumber, InvalidRow, TooMany
from timesthrough.plane.points import check_point, check_points, last_filled
from timesthrough.rows.rows import check_row, conditions_of

MAX_DEGREE = 16
MAX_CONDITIONS = 200


class Form:
    """A polynomial whose terms all have one degree."""

    def __init__(self, prime, degree, terms):
        check_prime(prime)
        if not is_from_to(degree, 0, MAX_DEGREE):
            raise InvalidNumber(degree)
        if not _are_terms(prime, degree, terms):
            raise InvalidForm("no terms of this degree")
        self._prime = prime
        self._degree = degree
        self._terms = {exponents: terms[exponents] for exponents in sorted(list(terms))}

    @property
    def prime(self):
        """The prime."""
        return self._prime

    @property
    def degree(self):
        """The degree."""
        return self._degree

    @property
    def terms(self):
        """The rests of the exponents, but for those that are 0."""
        return {exponents: self._terms[exponents] for exponents in self._terms}

    def at(self, point):
        """The rest that comes out for the entries of a point."""
        check_point(self._prime, point)
        # The lowest rest of a power of (entry and unknown) is the power of the entry.
        first, second, third = [_powers(self._prime, entry, self._degree, 1) for entry in point]
        parts = [rest * first[i][0] * second[j][0] * third[k][0] for (i, j, k), rest in self._terms.items()]
        return sum(parts) % self._prime

    def times_at(self, point):
        """How many times the form passes through a point, None for the form 0."""
        check_point(self._prime, point)
        for order in range(self._degree + 1):
            table = vanishing(self._prime, self._degree, point, order)
            if any([self._applied(row) != 0 for row in table]):
                return order
        return None

    def __add__(self, other):
        if not isinstance(other, Form):
            return NotImplemented
        self._check_alike(other)
        return Form(self._prime, self._degree, _sum_of_terms(self._prime, self._terms, other._terms))

    def __sub__(self, other):
        if not isinstance(other, Form):
            return NotImplemented
        self._check_alike(other)
        turned = _turned_terms(self._prime, other._terms)
        return Form(self._prime, self._degree, _sum_of_terms(self._prime, self._terms, turned))

    def __mul__(self, other):
        if not isinstance(other, Form):
            return NotImplemented
        if self._prime != other._prime:
            raise InvalidForm("forms over two primes")
        degree = self._degree + other._degree
        if degree > MAX_DEGREE:
            raise TooMany(MAX_DEGREE)
        return Form(self._prime, degree, _product_of_terms(self._prime, self._terms, other._terms))

    def __neg__(self):
        return Form(self._prime, self._degree, _turned_terms(self._prime, self._terms))

    def __bool__(self):
        return bool(self._terms)

    def __len__(self):
        return len(self._terms)

    def __eq__(self, other):
        return (isinstance(other, Form) and self._prime == other._prime
                and self._degree == other._degree and self._terms == other._terms)

    def __str__(self):
        return f"form of degree {self._degree} with {len(self._terms)} terms modulo {self._prime}"

    def _check_alike(self, other):
        if self._prime != other._prime or self._degree != other._degree:
            raise InvalidForm("forms of two primes or degrees")

    def _applied(self, row):
        """The product of a row of conditions with the coefficients, modulo the prime."""
        columns = _columns(self._degree)
        return sum([rest * self._terms.get(column, 0) for rest, column in zip(row, columns)]) % self._prime


def conditions(prime, points, row):
    """A table whose product with coefficients is 0 if the form passes as the row asks."""
    _check_asked(prime, points, row)
    return tuple(_table(prime, points, row))


def curves(prime, points, row):
    """The forms that pass through the points as the row asks, by the kernel."""
    _check_asked(prime, points, row)
    columns = _columns(row[0])
    found = []
    for coefficients in kernel_rows(prime, _table(prime, points, row), len(columns)):
        terms = {column: rest for column, rest in zip(columns, coefficients) if rest != 0}
        found.append(Form(prime, row[0], terms))
    return tuple(found)


def count_at(prime, points, row):
    """The count of the row at these points."""
    _check_asked(prime, points, row)
    columns = _columns(row[0])
    return len(columns) - rank_of(prime, _table(prime, points, row), len(columns))


def vanishing(prime, degree, point, order):
    """For each term of a degree at the point, how it comes of the coefficients; nothing is checked."""
    # The last entry that is not 0 is 1: its unknown is set to 1, the other two are moved.
    chosen = last_filled(point)
    one, other = [at for at in range(3) if at != chosen]
    left = _powers(prime, point[one], degree, order + 1)
    right = _powers(prime, point[other], degree, order + 1)
    columns = _columns(degree)
    table = []
    for first in range(order + 1):
        second = order - first
        table.append(tuple([left[column[one]][first] * right[column[other]][second] % prime for column in columns]))
    return table


def _powers(prime, entry, degree, many):
    """For each power up to the degree of (entry and unknown) its lowest rests, so many."""
    powers = [[1] + [0] * (many - 1)]
    for _ in range(degree):
        last = powers[-1]
        shifted = [0] + last[:-1]
        powers.append([(entry * rest + lower) % prime for rest, lower in zip(last, shifted)])
    return powers


def _check_asked(prime, points, row):
    check_points(prime, points)
    check_row(row)
    if len(row) != len(points) + 1:
        raise InvalidRow("a row of another number of points")
    if row[0] > MAX_DEGREE:
        raise TooMany(MAX_DEGREE)
    if conditions_of(row) > MAX_CONDITIONS:
        raise TooMany(MAX_CONDITIONS)


def _are_terms(prime, degree, terms):
    if not isinstance(terms, dict):
        return False
    if not all([_are_exponents(degree, exponents) for exponents in terms]):
        return False
    return all([is_from_to(rest, 1, prime - 1) for rest in terms.values()])


def _are_exponents(degree, value):
    if not isinstance(value, tuple) or len(value) != 3:
        return False
    return all([is_from_to(exponent, 0, degree) for exponent in value]) and sum(value) == degree


def _columns(degree):
    """The exponents of the degree, ascending; none below 0."""
    return [(i, j, degree - i - j) for i in range(degree + 1) for j in range(degree + 1 - i)]


def _table(prime, points, row):
    """The conditions of a row; a row of zeros if it asks nothing."""
    degree = row[0]
    if degree < 0:
        return []
    found = []
    for point, number in zip(points, row[1:]):
        for order in range(number):
            found.extend(vanishing(prime, degree, point, order))
    return found if len(found) > 0 else [(0,) * len(_columns(degree))]


def _sum_of_terms(prime, one, other):
    sums = {}
    for exponents in list(one) + list(other):
        rest = (one.get(exponents, 0) + other.get(exponents, 0)) % prime
        if rest != 0:
            sums[exponents] = rest
    return sums


def _turned_terms(prime, terms):
    return {exponents: prime - terms[exponents] for exponents in terms}


def _product_of_terms(prime, one, other):
    sums = {}
    for i, j, k in one:
        for p, q, r in other:
            exponents = (i + p, j + q, k + r)
            sums[exponents] = (sums.get(exponents, 0) + one[i, j, k] * other[p, q, r]) % prime
    return {exponents: sums[exponents] for exponents in sums if sums[exponents] != 0}
