"""Change rows: those to which the row of lines is led."""

from timesthrough.base.values import is_from_to
from timesthrough.count.steps import MOST_TURNS, fallen, falling_turn
from timesthrough.errors import InvalidNumber, TooMany
from timesthrough.mirrors.led import led_rows
from timesthrough.rows.moves import do_move, map_of
from timesthrough.rows.rows import LEAST_POINTS, check_row, is_row, line_row

# Change rows are listed for at most so many points.
_MOST_LISTED = 6


def is_change_row(value):
    """Whether the value is a change row that is not too far."""
    if not is_row(value):
        return False
    try:
        return _is_change(value)
    except TooMany:
        return False


def change_word(row):
    """A word that leads the row of lines to the row, None if it is no change row."""
    check_row(row)
    return _word(row)


def change_map(row):
    """A map whose first row is the row, None if it is no change row."""
    check_row(row)
    word = _word(row)
    return None if word is None else map_of(len(row) - 1, word)


def change_rows(n):
    """All change rows of 3 to 6 points, ascending."""
    if not is_from_to(n, LEAST_POINTS, _MOST_LISTED):
        raise InvalidNumber(n)
    return led_rows(line_row(n))


def _is_change(row):
    """Whether the row is a change row; TooMany if it is too far."""
    return fallen(row, MOST_TURNS) == (1, [0] * (len(row) - 1))


def _word(row):
    """The turns of the falling walk of a change row, the last one first; None for other rows."""
    if not _is_change(row):
        return None
    entries = list(row)
    turns = []
    while entries[0] > 1:
        turn = falling_turn(entries)
        do_move(entries, turn)
        turns.append(turn)
    return tuple(turns[::-1])
