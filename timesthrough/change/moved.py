"""The change of the plane that a turn makes, done with told points and forms."""

from timesthrough.base.values import is_from_to
from timesthrough.errors import InvalidForm, InvalidNumber, Refused, TooMany
from timesthrough.plane.forms import MAX_DEGREE, Form
from timesthrough.plane.points import check_points, point_of, spread

_UNITS = ((1, 0, 0), (0, 1, 0), (0, 0, 1))


def turned_points(prime, points, i, j, k):
    """The new points, the three that are turned at being unit points."""
    _check_turn(prime, points, (i, j, k))
    _check_lines(prime, points, (i, j, k))
    three = (points[i], points[j], points[k])
    units = {i: _UNITS[0], j: _UNITS[1], k: _UNITS[2]}
    found = []
    for at, point in enumerate(points):
        if at in units:
            found.append(units[at])
        else:
            x, y, z = _factors(prime, three, point)
            found.append(point_of(prime, (y * z, x * z, x * y)))
    return tuple(found)


def turned_form(prime, points, i, j, k, form):
    """The form that the change makes of a form."""
    _check_turn(prime, points, (i, j, k))
    if not isinstance(form, Form) or form.prime != prime or len(form) == 0:
        raise InvalidForm("no form over the prime, or the form 0")
    _check_lines(prime, points, (i, j, k))
    three = (points[i], points[j], points[k])
    a, b, c = [form.times_at(point) for point in three]
    degree = 2 * form.degree - a - b - c
    if degree > MAX_DEGREE:
        raise TooMany(MAX_DEGREE)
    terms = _placed(prime, three, form).terms
    changed = {(q + r - a, p + r - b, p + q - c): terms[p, q, r] for p, q, r in terms}
    return Form(prime, degree, changed)


def _check_turn(prime, points, indices):
    """Raises the errors of the prime, the points, and the indices of three points."""
    check_points(prime, points)
    least = 0
    for index in indices:
        if not is_from_to(index, least, len(points) - 1):
            raise InvalidNumber(index)
        least = index + 1


def _check_lines(prime, points, indices):
    """Raises Refused if the three points are in a line, or another one is with two of them."""
    i, j, k = indices
    three = (points[i], points[j], points[k])
    if spread(prime, points[i], points[j], points[k]) == 0:
        raise Refused(("line", i, j, k))
    for at, point in enumerate(points):
        if at not in indices and 0 in _factors(prime, three, point):
            raise Refused(("near", at))


def _factors(prime, three, point):
    """How many times each of three points is in a point, but for a common factor."""
    one, two, last = three
    return (spread(prime, point, two, last), spread(prime, one, point, last), spread(prime, one, two, point))


def _placed(prime, three, form):
    """The form with the sum of unknowns times entries of the points in the place of each unknown."""
    powers = [_powers(_line(prime, three, at), form.degree) for at in range(3)]
    terms = form.terms
    total = Form(prime, form.degree, {})
    for i, j, k in terms:
        rest = Form(prime, 0, {(0, 0, 0): terms[i, j, k]})
        total = total + rest * powers[0][i] * powers[1][j] * powers[2][k]
    return total


def _line(prime, three, at):
    """The form of degree 1 whose terms are the entries of three points at an index."""
    return Form(prime, 1, {unit: point[at] for unit, point in zip(_UNITS, three) if point[at] != 0})


def _powers(line, most):
    powers = [Form(line.prime, 0, {(0, 0, 0): 1})]
    for _ in range(most):
        powers.append(powers[-1] * line)
    return powers
