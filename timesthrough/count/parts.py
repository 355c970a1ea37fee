"""Parts of rows: a free row, and the exceptional rows that all curves have in common."""

from timesthrough.base.values import is_same
from timesthrough.count.counts import count
from timesthrough.count.steps import barring, finish, is_cubic_times, is_level_or_below, settle
from timesthrough.errors import InvalidRow, Refused
from timesthrough.rows.exceptional import exceptional_rows
from timesthrough.rows.moves import led_back
from timesthrough.rows.rows import FEW_POINTS, FINITE_POINTS, check_few, counting_of, plus_times, point_row
from timesthrough.rows.rows import product_of, short_row


def parts(row):
    """The free row, and the pairs of exceptional rows and times, whose sum the row is."""
    check_few(row)
    found = _parts(row)
    if found is None:
        raise Refused(("none",))
    return found


def is_parts(row, value):
    """Whether the value is the parts of the row."""
    check_few(row)
    found = _parts(row)
    return found is not None and is_same(value, found)


def met_below(row):
    """All exceptional rows that the row meets below 0, ascending."""
    check_few(row)
    if len(row) == FEW_POINTS + 1:
        # Without curves there may be endlessly many.
        return tuple([other for other, _ in parts(row)[1]])
    return _listed_below(row)


def clash(row):
    """The least pair of exceptional rows met below 0 that meet one another, or None."""
    check_few(row, FINITE_POINTS)
    found = _listed_below(row)
    for at, one in enumerate(found):
        for other in found[at + 1:]:
            if product_of(one, other) > 0:
                return (one, other)
    return None


def surplus(row):
    """By how much the count is greater than the counting."""
    check_few(row)
    if min(row) < 0:
        raise InvalidRow("an integer below 0")
    return count(row) - counting_of(row)


def are_independent(row):
    """Whether the conditions that the row asks at general points are independent."""
    return surplus(row) == 0


def taken_off(word, end):
    """The rows of the curves that steps take off behind the word, led back to ahead of it."""
    many = len(end) - 1
    found = []
    for step in finish(end)[0]:
        if step[0] == "off":
            found.append(led_back(point_row(many, step[1]), word))
        else:
            word = word + (step,)
    return found


def _listed_below(row):
    return tuple([other for other in exceptional_rows(len(row) - 1) if product_of(row, other) < 0])


def _parts(row):
    """The parts of the row, None if it has no curves."""
    if is_level_or_below(row):
        return (row, ()) if is_cubic_times(row) else None
    word, end = settle(row)
    if barring(end) is not None:
        return None
    free = row
    pairs = []
    for other in taken_off(word, end):
        times = -product_of(row, other)
        free = plus_times(free, -times, other)
        pairs.append((other, times))
    return (short_row(free), tuple(sorted(pairs)))
