"""Places: told points, with the curves that lines, conics and cubics through them make."""

from timesthrough.base.rests import kernel_rows, rest_of_product
from timesthrough.base.values import choices
from timesthrough.errors import InvalidPoints, InvalidRow, Refused
from timesthrough.mirrors.diagrams import kinds_of
from timesthrough.plane.forms import vanishing
from timesthrough.plane.points import check_points, spread
from timesthrough.rows.exceptional import exceptional_rows, is_exceptional
from timesthrough.rows.rows import FINITE_POINTS, cubic, is_row, plus_times, product_of

# A cubic has so many terms.
_CUBIC_TERMS = 10


class Place:
    """Three to eight points over a prime, no four in a line and no seven on a conic."""

    def __init__(self, prime, points):
        check_points(prime, points)
        if len(points) > FINITE_POINTS:
            raise InvalidPoints("more than eight points")
        spreads = _spreads(prime, points)
        _check_lines(len(points), spreads)
        conics = _sixes_on_conics(prime, len(points), spreads)
        _check_conics(len(points), conics)
        self._prime = prime
        self._points = points
        self._roots = _roots(prime, points, spreads, conics)
        self._bends = _bends(self._roots)
        self._staying = _staying(len(points), self._bends)
        self._curves = tuple(sorted(self._bends + self._staying))
        self._kind = kinds_of(self._bends)
        self._kind_told = _told_kind(self._kind)

    @property
    def prime(self):
        """The prime."""
        return self._prime

    @property
    def points(self):
        """The points."""
        return self._points

    @property
    def roots(self):
        """The root rows that have a curve here, ascending."""
        return self._roots

    @property
    def bends(self):
        """The roots that are no sum of two of them, ascending."""
        return self._bends

    @property
    def staying(self):
        """The exceptional rows that no bend meets below 0, ascending."""
        return self._staying

    @property
    def curves(self):
        """The bends and the staying rows, ascending."""
        return self._curves

    @property
    def kind(self):
        """How the bends hang together, part by part."""
        return self._kind

    def parts_of(self, row):
        """The pairs of curves and times whose sum a root of the place, or an exceptional row, is."""
        if not is_row(row) or len(row) != len(self._points) + 1:
            raise InvalidRow("no row of so many points")
        if row not in self._roots and not is_exceptional(row):
            raise InvalidRow("no root of the place, and not exceptional")
        if plus_times(row, -1, cubic(len(self._points))) in self._roots:
            raise Refused(("cubic",))
        return _parts(row, self._bends)

    def __contains__(self, value):
        return is_row(value) and value in self._curves

    def __len__(self):
        return len(self._points)

    def __iter__(self):
        return iter(self._curves)

    def __eq__(self, other):
        return isinstance(other, Place) and self._prime == other._prime and self._points == other._points

    def __str__(self):
        return f"{len(self._points)} points over {self._prime}, kind {self._kind_told}"


def _spreads(prime, points):
    """The determinants of each three points, by their ascending indices."""
    triples = choices(list(range(len(points))), 3)
    return {(i, j, k): spread(prime, points[i], points[j], points[k]) for i, j, k in triples}


def _check_lines(many, spreads):
    for i, j, k, last in choices(list(range(many)), 4):
        if spreads[i, j, k] == 0 and spreads[i, j, last] == 0:
            raise Refused(("line", i, j, k, last))


def _sixes_on_conics(prime, many, spreads):
    """The indices of each six points that are on a conic."""
    return [six for six in choices(list(range(many)), 6) if _are_on_conic(prime, six, spreads)]


def _are_on_conic(prime, six, spreads):
    # The determinant of the six rows of squares and products, told by those of three points.
    a, b, c, d, e, f = six
    one = spreads[a, b, c] * spreads[a, d, e] * spreads[b, d, f] * spreads[c, e, f]
    other = spreads[a, b, d] * spreads[a, c, e] * spreads[b, c, f] * spreads[d, e, f]
    return (one - other) % prime == 0


def _check_conics(many, conics):
    # Five points, no four of them in a line, are on just one conic: so seven are on one if
    # two sixes with five points in common are.
    for seven in choices(list(range(many)), 7):
        if seven[:6] in conics and seven[:5] + seven[6:] in conics:
            raise Refused(("conic",) + seven)


def _roots(prime, points, spreads, conics):
    many = len(points)
    found = [_numbered(1, many, triple) for triple in spreads if spreads[triple] == 0]
    found.extend([_numbered(2, many, six) for six in conics])
    if many == FINITE_POINTS:
        found.extend([_numbered(3, many, list(range(many)) + [at]) for at in _doubled(prime, points)])
    return tuple(sorted(found))


def _numbered(degree, many, places):
    """The row whose number at each point tells how often its index is among the places."""
    return (degree,) + tuple([places.count(at) for at in range(many)])


def _doubled(prime, points):
    """The indices of the points through which some cubic through all eight passes twice."""
    table = [vanishing(prime, 3, point, 0)[0] for point in points]
    # At a place there are just two cubics of which all others are sums of multiples.
    one, other = kernel_rows(prime, table, _CUBIC_TERMS)
    found = []
    for at, point in enumerate(points):
        left, right = vanishing(prime, 3, point, 1)
        rests = [rest_of_product(prime, line, form) for line in (left, right) for form in (one, other)]
        if (rests[0] * rests[3] - rests[1] * rests[2]) % prime == 0:
            found.append(at)
    return found


def _bends(roots):
    """The roots that are no sum of two, ascending."""
    # A sum of bends meets one of them below 0, and this one has a lesser degree: it stands ahead.
    found = []
    for root in roots:
        if all([product_of(root, bend) >= 0 for bend in found]):
            found.append(root)
    return tuple(found)


def _staying(many, bends):
    rows = exceptional_rows(many)
    for bend in bends:
        rows = tuple([row for row in rows if product_of(row, bend) >= 0])
    return rows


def _told_kind(kind):
    return " ".join([f"{letter}{size}" for letter, size in kind]) if len(kind) > 0 else "none"


def _parts(row, bends):
    """What is left of the row if bends are taken off as long as one meets it below 0, and these bends."""
    times = {}
    bend = _bend_below(row, bends)
    while bend is not None:
        times[bend] = times.get(bend, 0) + 1
        row = plus_times(row, -1, bend)
        bend = _bend_below(row, bends)
    if any([entry != 0 for entry in row]):
        times[row] = 1
    return tuple(sorted(times.items()))


def _bend_below(row, bends):
    for bend in bends:
        if product_of(row, bend) < 0:
            return bend
    return None
