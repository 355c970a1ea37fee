"""Rows of ten points and more: bounds of their counts, and rows that are led to a point row."""

from timesthrough.count.steps import fallen, falling_turn
from timesthrough.errors import InvalidRow, TooMany
from timesthrough.plane.forms import count_at
from timesthrough.plane.points import check_points
from timesthrough.rows.moves import do_move
from timesthrough.rows.rows import MOST_POINTS, check_row, counting_of

FEWEST = 10
MOST_STEPS = 2000


def end_of_steps(row):
    """How the steps of a row end: below, or at a standard row."""
    _check_many(row)
    end = _end(row)
    return ("below",) if end is None else ("at", end)


def row_below(row):
    """The lower bound of the count at general points."""
    _check_many(row)
    return _low(_end(row))


def is_square_barred(row):
    """Whether a row of sixteen points is barred by squares."""
    _check_many(row)
    if len(row) <= MOST_POINTS:
        return False
    return 4 * row[0] <= sum(row[1:]) and max(row) > 0


def row_above(prime, points, row):
    """The upper bound of the count at general points that told points show."""
    _check_told(prime, points, row)
    return _high(prime, points, row, _end(row))


def bounds(prime, points, row):
    """The count at general points if both bounds tell it, otherwise both bounds."""
    _check_told(prime, points, row)
    end = _end(row)
    low, high = _low(end), _high(prime, points, row, end)
    return ("exact", low) if low == high else ("open", low, high)


def is_led_to_point(row):
    """Whether moves lead the row to a point row."""
    _check_many(row)
    return _is_led(row)


def word_to_point(row):
    """A word that leads the row to a point row, None if there is none."""
    _check_many(row)
    if not _is_led(row):
        return None
    entries = list(row)
    word = []
    while entries[0] > 0:
        turn = falling_turn(entries)
        do_move(entries, turn)
        word.append(turn)
    return tuple(word)


def _check_many(row):
    check_row(row)
    if len(row) <= FEWEST:
        raise InvalidRow("a row of less than ten points")


def _check_told(prime, points, row):
    check_points(prime, points)
    _check_many(row)
    if len(row) != len(points) + 1:
        raise InvalidRow("a row of another number of points")


def _end(row):
    """The standard row at which the steps of a row end, None if they end below."""
    # Which point has which number matters to no step: so the numbers are kept ascending.
    degree = row[0]
    numbers = sorted([max(number, 0) for number in row[1:]])
    turns = 0
    while degree >= 0:
        a, b, c = numbers[-3:]
        over = a + b + c - degree
        if over <= 0:
            return (degree,) + tuple(numbers[::-1])
        turns += 1
        if turns > MOST_STEPS:
            raise TooMany(MOST_STEPS)
        degree = degree - over
        a, b, c = a - over, b - over, c - over
        numbers = sorted(numbers[:-3] + [a if a > 0 else 0, b if b > 0 else 0, c if c > 0 else 0])
    return None


def _low(end):
    return 0 if end is None else max(counting_of(end), 0)


def _high(prime, points, row, end):
    if end is None or is_square_barred(row):
        return 0
    return count_at(prime, points, end)


def _is_led(row):
    """Whether turns at three greatest numbers end at a point row; TooMany if they are too many."""
    return fallen(row, MOST_STEPS) == (0, [-1] + [0] * (len(row) - 2))
