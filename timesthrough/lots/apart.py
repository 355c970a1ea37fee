"""Lots: exceptional rows of which no two meet."""

from timesthrough.base.values import is_from_to, is_integer
from timesthrough.count.steps import settle
from timesthrough.errors import InvalidLot, InvalidNumber, InvalidOperation, Refused
from timesthrough.rows.exceptional import exceptional_rows, is_exceptional
from timesthrough.rows.moves import moved, moved_far, undone
from timesthrough.rows.rows import FINITE_POINTS, LEAST_POINTS, check_few, check_many, is_row, plus_times
from timesthrough.rows.rows import product_of, short_row

# Whole lots are listed for at most so many points.
_MOST_LISTED = 6

# How many exceptional rows there are for 8, 7, .., 1 points, as a lot of points takes them.
_MANY = (240, 56, 27, 16, 10, 6, 2, 1)


def are_apart(value):
    """Whether the value is a lot."""
    if not isinstance(value, tuple) or not 1 <= len(value) <= FINITE_POINTS:
        return False
    if not all([is_row(row) for row in value]) or len(value[0]) > FINITE_POINTS + 1:
        return False
    if not all([len(row) == len(value[0]) and is_exceptional(row) for row in value]):
        return False
    return all([product_of(value[at], row) == 0 for at in range(len(value)) for row in value[:at]])


def kind_of(lot):
    """The kind of a lot, "points" or "rulings"."""
    check_lot(lot)
    return _kind(lot)


def further(lot):
    """The exceptional rows that meet no row of the lot, and are none of them, ascending."""
    check_lot(lot)
    return _further(lot)


def to_points(lot):
    """A word that leads the rows of the lot, in order, to the rows of the first points."""
    check_lot(lot)
    if _kind(lot) == "rulings":
        raise Refused(("rulings",))
    many = len(lot[0]) - 1
    first = many - len(lot)
    moves = _to_last_points(lot)
    moves.extend([("swap", at, first + at) for at in range(len(lot)) if first > 0])
    return tuple(moves)


def to_rulings(lot):
    """A word that leads the rows of the lot to (1, 1, 1, 0, ..) and the rows of the points from 2 on."""
    check_lot(lot)
    if _kind(lot) == "points":
        raise Refused(("points",))
    return tuple(_to_last_points(lot))


def line_of(lot):
    """The row with square 1 that makes a map together with the rows of a whole lot."""
    check_lot(lot)
    if len(lot) < len(lot[0]) - 1:
        raise Refused(("size", len(lot)))
    return line_with(lot)


def rulings_of(lot):
    """The two rows with square 0 that meet no row of the lot, but one another once."""
    word = undone(to_rulings(lot))
    zeros = (0,) * (len(lot) - 1)
    return tuple(sorted([moved((1, 1, 0) + zeros, word), moved((1, 0, 1) + zeros, word)]))


def lots_count(n, size, kind="points"):
    """How many sets of so many rows are lots of a kind."""
    check_many(n, FINITE_POINTS)
    if not is_from_to(size, 1, n):
        raise InvalidNumber(size)
    if kind != "points" and kind != "rulings":
        raise InvalidOperation("no kind of lots")
    if kind == "rulings" and size != n - 1:
        raise InvalidNumber(size)
    many = 1
    for at in range(size):
        left = _MANY[FINITE_POINTS - n + at]
        # The last row of a lot that leaves two rulings has but one choice.
        many = many * (1 if kind == "rulings" and left == 2 else left) // (at + 1)
    return many


def whole_lots(n):
    """All whole lots whose rows ascend, ascending."""
    check_many(n, _MOST_LISTED)
    rows = exceptional_rows(n)
    are_far = [[product_of(one, other) == 0 for other in rows] for one in rows]
    # Each lot so far, by indices, with those of the rows behind its last one that are apart from all.
    found = [((), list(range(len(rows))))]
    for _ in range(n):
        found = [(lot + (at,), [other for other in left if other > at and are_far[at][other]])
                 for lot, left in found for at in left]
    return tuple([tuple([rows[at] for at in lot]) for lot, _ in found])


def blown_down(row, lot):
    """The row, and each row of the lot so many times as it meets the row."""
    _check_row_and_lot(row, lot)
    return short_row(_with_rows(row, lot, [product_of(row, other) for other in lot]))


def blown_up(row, lot, times):
    """The row, which meets no row of the lot, less each row of the lot so many times."""
    _check_row_and_lot(row, lot)
    good = isinstance(times, tuple) and len(times) == len(lot)
    if not good or not all([is_integer(number) for number in times]):
        raise InvalidOperation("not as many integers as the lot has rows")
    for at, other in enumerate(lot):
        if product_of(row, other) != 0:
            raise Refused(("meets", at))
    return short_row(_with_rows(row, lot, [-number for number in times]))


def check_lot(lot):
    """Raises InvalidLot unless the argument is a lot."""
    if not are_apart(lot):
        raise InvalidLot("no lot")


def line_with(lot):
    """A third of the sum of the cubic and of all rows of a whole lot; nothing is checked."""
    total = _with_rows((3,) + (1,) * len(lot), lot, [1] * len(lot))
    return tuple([entry // 3 for entry in total])


def _check_row_and_lot(row, lot):
    check_few(row, FINITE_POINTS)
    check_lot(lot)
    if len(lot[0]) != len(row):
        raise InvalidLot("a lot of another number of points")


def _with_rows(row, lot, times):
    """The entries of the row and of all rows of the lot, each so many times, added."""
    entries = row
    for other, number in zip(lot, times):
        entries = plus_times(entries, number, other)
    return entries


def _further(lot):
    rows = exceptional_rows(len(lot[0]) - 1)
    return tuple([row for row in rows if all([product_of(row, other) == 0 for other in lot])])


def _kind(lot):
    return "rulings" if len(lot) == len(lot[0]) - 2 and len(_further(lot)) == 0 else "points"


def _to_last_points(lot):
    """Moves that lead the rows of the lot, in order, to the rows of as many last points.

    The first row of a lot of rulings is led to (1, 1, 1, 0, ..) in the place of a point row.
    """
    moves = []
    for at in range(len(lot) - 1, -1, -1):
        # The rows behind are led already, and this one has the number 0 at their points.
        many = len(lot[0]) - 1 - (len(lot) - 1 - at)
        entries = moved_far(lot[at], moves)[:many + 1]
        if many >= LEAST_POINTS:
            moves.extend(settle(entries)[0])
        elif entries == [0, -1, 0]:
            moves.append(("swap", 0, 1))
    return moves
