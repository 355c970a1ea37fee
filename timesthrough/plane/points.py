"""Points of the plane over a prime."""

from timesthrough.base.rests import are_rests, check_prime, inverse, rank_of
from timesthrough.base.values import choices, is_integer
from timesthrough.errors import InvalidPoints

MAX_POINTS = 16

_FEWEST = 3
# Points are let if they are no more than this, and no more of them in a line or on a conic.
_MOST_LET = 8
_MOST_IN_LINE = 3
_MOST_ON_CONIC = 6
# A polynomial of degree 2 has so many terms.
_CONIC_TERMS = 6


def is_point(prime, value):
    """Whether the value is a point over the prime."""
    check_prime(prime)
    return _is_point(prime, value)


def are_points(prime, value):
    """Whether the value is a tuple of 3 to 16 different points over the prime."""
    check_prime(prime)
    if not isinstance(value, tuple) or not _FEWEST <= len(value) <= MAX_POINTS:
        return False
    if not all([_is_point(prime, point) for point in value]):
        return False
    return len(set(value)) == len(value)


def point_of(prime, triple):
    """The point of which a triple of integers is a multiple."""
    check_prime(prime)
    if not isinstance(triple, tuple) or len(triple) != 3:
        raise InvalidPoints(triple)
    if not all([is_integer(entry) for entry in triple]):
        raise InvalidPoints(triple)
    rests = tuple([entry % prime for entry in triple])
    if rests == (0, 0, 0):
        raise InvalidPoints(triple)
    return _scaled(prime, rests)


def line_through(prime, one, other):
    """The line with two points."""
    check_prime(prime)
    check_point(prime, one)
    check_point(prime, other)
    if one == other:
        raise InvalidPoints("twice the same point")
    (a, b, c), (x, y, z) = one, other
    crossed = (b * z - c * y, c * x - a * z, a * y - b * x)
    return _scaled(prime, tuple([entry % prime for entry in crossed]))


def are_in_line(prime, points):
    """Whether one line has all the points."""
    check_points(prime, points)
    return _are_in_line(prime, points)


def are_on_conic(prime, points):
    """Whether some polynomial of degree 2 passes through all the points."""
    check_points(prime, points)
    return _are_on_conic(prime, points)


def is_let(prime, points):
    """Whether they are at most eight, no four in a line, no seven on a conic."""
    check_points(prime, points)
    if len(points) > _MOST_LET:
        return False
    lines = [_are_in_line(prime, four) for four in choices(points, _MOST_IN_LINE + 1)]
    conics = [_are_on_conic(prime, seven) for seven in choices(points, _MOST_ON_CONIC + 1)]
    return not any(lines) and not any(conics)


def check_point(prime, point):
    """Raises InvalidPoints unless the argument is a point; the prime was checked."""
    if not _is_point(prime, point):
        raise InvalidPoints(point)


def check_points(prime, points):
    """Raises the errors of a prime and of points over it."""
    if not are_points(prime, points):
        raise InvalidPoints("no points over the prime")


def spread(prime, one, two, last):
    """The determinant of three points, modulo the prime: 0 if they are in a line; nothing is checked."""
    (a, b, c), (d, e, f), (g, h, i) = one, two, last
    return (a * (e * i - f * h) - b * (d * i - f * g) + c * (d * h - e * g)) % prime


def last_filled(point):
    """The index of the last entry of a point that is not 0; this entry is 1."""
    return max([at for at in range(3) if point[at] != 0])


def _is_point(prime, value):
    if not are_rests(prime, value, 3) or value == (0, 0, 0):
        return False
    return value[last_filled(value)] == 1


def _scaled(prime, rests):
    scale = inverse(prime, rests[last_filled(rests)])
    return tuple([rest * scale % prime for rest in rests])


def _are_in_line(prime, points):
    return rank_of(prime, points, 3) < 3


def _are_on_conic(prime, points):
    squares = [(x * x, x * y, x * z, y * y, y * z, z * z) for x, y, z in points]
    table = [[entry % prime for entry in row] for row in squares]
    return rank_of(prime, table, _CONIC_TERMS) < _CONIC_TERMS
