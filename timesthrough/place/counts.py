"""Counts at told points, by the curves that are taken off there."""

from timesthrough.base.values import is_from_to, is_integer
from timesthrough.count.steps import MAX_STEPS, is_free_row
from timesthrough.errors import InvalidOperation, InvalidPoints, InvalidRow
from timesthrough.place.places import Place
from timesthrough.rows.rows import counting_of, is_row, plus_times, product_of

_MOST_ENTRY = 60


def is_clear(place, row):
    """Whether no curve of the place meets the row below 0."""
    _check(place, row)
    return _is_clear(place, row)


def clear_part(place, row):
    """The clear row at which steps of the row end, None if it has no curves."""
    _check(place, row)
    return _clear_part(place, row)


def steps_in(place, row):
    """Steps of the row: curves to take off, and how many times."""
    _check(place, row)
    return tuple(_taken_off(place, row)[0])


def is_steps_in(place, row, value):
    """Whether the value is steps of the row."""
    _check(place, row)
    if not isinstance(value, tuple) or len(value) > MAX_STEPS:
        return False
    for step in value:
        if not _can_step(place, row, step):
            return False
        curve, times = step
        row = plus_times(row, -times, curve)
    return row[0] < 0 or _is_clear(place, row)


def count_in(place, row):
    """The count of the row at the place."""
    _check(place, row)
    part = _clear_part(place, row)
    return 0 if part is None else counting_of(part)


def depends(place, row):
    """Whether the conditions that the row asks depend."""
    _check(place, row)
    part = _clear_part(place, row)
    if part is None or min(row) < 0:
        raise InvalidOperation("a row without curves, or with a number below 0")
    return counting_of(part) > counting_of(row)


def _check(place, row):
    if not isinstance(place, Place):
        raise InvalidPoints("no place")
    if not is_row(row) or len(row) != len(place.points) + 1:
        raise InvalidRow("no row of as many points")
    if not all([is_from_to(entry, -_MOST_ENTRY, _MOST_ENTRY) for entry in row]):
        raise InvalidRow("an integer that is too great")


def _is_clear(place, row):
    # Bends are few, and a free row meets no exceptional row below 0.
    if any([product_of(row, bend) < 0 for bend in place.bends]):
        return False
    return is_free_row(row)


def _clear_part(place, row):
    part = _taken_off(place, row)[1]
    return part if part[0] >= 0 else None


def _taken_off(place, row):
    """Steps of the row, and the row at which they end."""
    made = []
    while row[0] >= 0 and not _is_clear(place, row):
        for curve in place.curves:
            meeting = product_of(row, curve)
            if meeting < 0 and row[0] >= 0:
                # The curve meets itself -1 or -2 times: by so many each time brings the meeting up.
                times = -(meeting // -product_of(curve, curve))
                made.append((curve, times))
                row = plus_times(row, -times, curve)
    return made, row


def _can_step(place, row, step):
    if not isinstance(step, tuple) or len(step) != 2 or step[0] not in place:
        return False
    curve, times = step
    if not is_integer(times) or times < 1:
        return False
    return product_of(row, curve) - (times - 1) * product_of(curve, curve) < 0
