"""Rows of nine points by shifts: each is told by a row of eight points and two integers."""

from timesthrough.base.values import are_short, greatest_divisor, is_integer
from timesthrough.count.steps import settle, shadow_row
from timesthrough.errors import InvalidNumber, InvalidRow, TooMany
from timesthrough.mirrors.roots import roots
from timesthrough.rows.exceptional import is_exceptional
from timesthrough.rows.rows import FEW_POINTS, FINITE_POINTS, MOST_DIGITS, check_row, is_row, plus_times
from timesthrough.rows.rows import product_of, product_with_cubic, short_row

MOST_NORM = 8
MOST_LED = 20

_NOUGHT = (0, 0, 0, 0, 0, 0, 0, 0, 0)


def is_lattice_row(value):
    """Whether the value is a row of eight points that meets the cubic 0 times."""
    return is_row(value) and len(value) == FINITE_POINTS + 1 and product_with_cubic(value) == 0


def norm(u):
    """The square with the other sign."""
    _check_lattice_row(u)
    return -product_of(u, u)


def lattice_rows(number):
    """All lattice rows with the norm 0, 2 or 4, ascending."""
    if not is_integer(number) or number not in (0, 2, 4):
        raise InvalidNumber(number)
    if number == 0:
        return (_NOUGHT,)
    if number == 2:
        return roots(FINITE_POINTS)
    return _rows_with_norm_four()


def unfolded(row):
    """The triple (f, u, c) of a row of nine points."""
    _check_nine(row)
    f, u, c = _unfolded(row)
    if not are_short([f, c]):
        raise TooMany(MOST_DIGITS)
    return (f, short_row(u), c)


def folded_row(f, u, c):
    """The row of nine points with this triple."""
    if not is_integer(f):
        raise InvalidNumber(f)
    _check_lattice_row(u)
    if not is_integer(c):
        raise InvalidNumber(c)
    return short_row(_folded(f, u, c))


def exceptional_of(u):
    """The exceptional row of nine points of a lattice row."""
    _check_lattice_row(u)
    return short_row(_folded(1, u, -product_of(u, u) // 2))


def lattice_of(row):
    """The lattice row of an exceptional row of nine points."""
    _check_nine(row)
    if not is_exceptional(row):
        raise InvalidRow("no exceptional row")
    return short_row(_unfolded(row)[1])


def shifted(row, w):
    """The row shifted by a lattice row."""
    _check_nine(row)
    _check_lattice_row(w)
    return short_row(_shifted(row, w))


def shift_word(w):
    """A word that shifts each row of nine points by a lattice row."""
    _check_lattice_row(w)
    if -product_of(w, w) > MOST_NORM:
        raise TooMany(MOST_NORM)
    return _word_of_shift(w)


def divisor(u):
    """The greatest integer that divides all entries, 0 for the row of zeros."""
    _check_lattice_row(u)
    return greatest_divisor(u)


def end_of(row):
    """The end of the row: rows are led to one another just if they have one end."""
    _check_nine(row)
    end = _end(row)
    # A rest behind the row is not longer than the row, or is a number of the given one.
    if not are_short(end[1]):
        raise TooMany(MOST_DIGITS)
    return end


def led_nine(one, other):
    """A word that leads the first row to the second one, None if there is none."""
    _check_nine(one)
    _check_nine(other)
    if not _are_small(one) or not _are_small(other):
        raise TooMany(MOST_LED)
    if _end(one) != _end(other):
        return None
    f = product_with_cubic(one)
    if f == 0:
        return _level_word(one, other)
    # Words lead rows to one another just as they lead those with all signs changed.
    sign = 1 if f > 0 else -1
    words = [settle([sign * entry for entry in row])[0] for row in (one, other)]
    return words[0] + words[1][::-1]


def are_led_nine(one, other):
    """Whether moves lead the first row to the second one."""
    _check_nine(one)
    _check_nine(other)
    return _end(one) == _end(other)


def _check_nine(row):
    check_row(row)
    if len(row) != FEW_POINTS + 1:
        raise InvalidRow("no row of nine points")


def _check_lattice_row(u):
    if not is_lattice_row(u):
        raise InvalidRow("no lattice row")


def _are_small(row):
    return all([-MOST_LED <= number <= MOST_LED for number in row[1:]])


def _unfolded(row):
    f = product_with_cubic(row)
    c = row[FEW_POINTS] + f
    return f, (row[0] - 3 * c,) + tuple([number - c for number in row[1:FEW_POINTS]]), c


def _folded(f, u, c):
    return (u[0] + 3 * c,) + tuple([number + c for number in u[1:]]) + (c - f,)


def _shifted(row, w):
    f, u, c = _unfolded(row)
    return _folded(f, plus_times(u, f, w), c - product_of(u, w) - f * product_of(w, w) // 2)


def _word_of_shift(w):
    # What leads the shadow row back, behind the shift the other way, is the shift.
    opposite = [-entry for entry in w]
    return settle(_shifted(shadow_row(FEW_POINTS), opposite))[0]


def _rows_with_norm_four():
    """All lattice rows with the norm 4, ascending, each put together from two halves."""
    # The sum of the squares of the eight numbers is at least an eighth of the square of their
    # sum, which is 3 times the degree: so the degree is from -5 to 5. For the seven numbers
    # beside one the like holds with a seventh: so that one is from -2 to 2.
    halves = [(i, j, k, m) for i in range(-2, 3) for j in range(-2, 3) for k in range(-2, 3) for m in range(-2, 3)]
    told = [(half, sum(half), sum([number * number for number in half])) for half in halves]
    alike = {}
    for half, total, squares in told:
        alike.setdefault((total, squares), []).append(half)
    found = []
    for degree in range(-5, 6):
        for half, total, squares in told:
            others = alike.get((3 * degree - total, degree * degree + 4 - squares), ())
            found.extend([(degree,) + half + other for other in others])
    return tuple(found)


def _end(row):
    """The end of the row, with entries of any length."""
    f, u, c = _unfolded(row)
    if f > 0:
        return ("above", settle(_brought_near(f, u, row))[1])
    if f < 0:
        opposite = [-entry for entry in row]
        return ("below", settle(_brought_near(-f, [-entry for entry in u], opposite))[1])
    _, end = settle(u)
    many = greatest_divisor(u)
    return ("level", end, c if many == 0 else c % many)


def _brought_near(f, u, row):
    """The row, shifted so that its falling walk is short; f is above 0."""
    # Behind the shift no number of u is much above f.
    numbers = [-(number // f) for number in u[1:]]
    numbers[0] -= sum(numbers) % 3
    return _shifted(row, [sum(numbers) // 3] + numbers)


def _level_word(one, other):
    """A word from one row to another one, both of which meet the cubic 0 times and have one end."""
    _, u, c = _unfolded(one)
    _, other_u, other_c = _unfolded(other)
    word, end = settle(u)
    other_word, _ = settle(other_u)
    return word + _word_of_shift(_lattice_row_with(end, c - other_c)) + other_word[::-1]


def _lattice_row_with(u, number):
    """A lattice row that meets u this number of times, which its divisor has to divide."""
    turning = {product_of(u, root): root for root in roots(FINITE_POINTS)}
    # Sums of roots are tried, those of few ones first; any sum can be put in such an
    # order that what it meets on the way stays within these bounds.
    most = abs(number) + max(list(turning))
    reached = {0: _NOUGHT}
    last = [0]
    while number not in reached:
        new = []
        # The new list is the one that is walked a round later: so it is a copy that is walked.
        for at in list(last):
            for change in turning:
                if at + change not in reached and abs(at + change) <= most:
                    reached[at + change] = plus_times(reached[at], 1, turning[change])
                    new.append(at + change)
        last = new
    return reached[number]
