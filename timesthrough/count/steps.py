"""Settled rows, the falling walk, and steps to standard rows."""

from timesthrough.base.values import is_from_to
from timesthrough.errors import InvalidOperation, Refused, TooMany
from timesthrough.rows.moves import do_move, is_move, moved_far
from timesthrough.rows.rows import FEW_POINTS, check_few, product_of, product_with_cubic, short_row

MAX_STEPS = 2000

# A row of nine points whose falling walk has more turns is too far.
MOST_TURNS = 1900

# A turn, and putting the numbers in order behind it, are at most so many exchanges and turns.
_MOST_TOGETHER = 19

# Rows whose numbers differ by at most so many times their product with the cubic are not clearly too far.
_NEAR = 150


def is_standard(row):
    """Whether no number is below 0, and no three are together above the degree."""
    check_few(row)
    return stands(row)


def is_settled(row):
    """Whether the numbers do not ascend, and the first three are not above the degree."""
    check_few(row)
    numbers = row[1:]
    return list(numbers) == sorted(numbers, reverse=True) and row[0] >= sum(numbers[:3])


def settled(row):
    """The only settled row to which the row is led."""
    return _settled_and_word(row)[0]


def settling(row):
    """A word that leads to the settled row."""
    return _settled_and_word(row)[1]


def steps(row):
    """Steps that lead the row to a standard row."""
    check_few(row)
    if is_level_or_below(row):
        if not is_cubic_times(row):
            raise Refused(("none",))
        return ()
    word, end = settle(row)
    if barring(end) is not None:
        raise Refused(("none",))
    turns = [move for move in word if move[0] == "turn"]
    return tuple(turns + finish(moved_far(row, turns))[0])


def is_steps(row, value):
    """Whether the value is steps that lead the row to a standard row."""
    check_few(row)
    entries = _stepped(row, value)
    return entries is not None and stands(entries)


def walked(row, value):
    """The row to which steps lead."""
    check_few(row)
    entries = _stepped(row, value)
    if entries is None:
        raise InvalidOperation("no steps that can be done")
    return short_row(entries)


def stands(entries):
    """Whether the entries are those of a standard row, also longer ones."""
    numbers = sorted(entries[1:], reverse=True)
    return numbers[-1] >= 0 and entries[0] >= sum(numbers[:3])


def is_level_or_below(row):
    """Whether it is a row of nine points that meets the cubic 0 times or below."""
    return len(row) == FEW_POINTS + 1 and product_with_cubic(row) <= 0


def is_cubic_times(row):
    """Whether the row is the cubic times an integer that is not below 0."""
    times = row[1]
    return times >= 0 and row == (3 * times,) + (times,) * (len(row) - 1)


def is_free_row(row):
    """Whether moves lead the row to a standard row; TooMany if it is too far."""
    if is_level_or_below(row):
        return is_cubic_times(row)
    _, end = settle(row)
    return stands(end)


def shadow_row(n):
    """A settled row whose numbers all differ, and which meets no root 0 times.

    No two maps take it to one row. So a word that leads it back from where a map took it
    undoes the map: the word of settle for this row does so.
    """
    return (3 * n,) + tuple(range(n, 0, -1))


def settle(row):
    """A word, and the entries of the settled row to which it leads; TooMany if too far.

    The entries may be of any length. A row of nine points has to meet the cubic above 0 times.
    """
    if len(row) == FEW_POINTS + 1 and _is_clearly_far(row):
        raise TooMany(MAX_STEPS)
    # By the shadow the walk chooses among points with equal numbers: so it is that of a row
    # just beside the given one, which has no equal numbers on its way. A standard row that
    # is led back by its word has no longer walk than this.
    shadow = shadow_row(len(row) - 1)
    degree, shade = row[0], shadow[0]
    ranked = _ranked(row, shadow)
    word = []
    change = degree - ranked[0][0] - ranked[1][0] - ranked[2][0]
    while change < 0:
        if len(word) == MOST_TURNS:
            raise TooMany(MAX_STEPS)
        (one, one_shade, i), (two, two_shade, j), (three, three_shade, k) = ranked[:3]
        other = shade - one_shade - two_shade - three_shade
        word.append(("turn",) + tuple(sorted([i, j, k])))
        turned = [(one + change, one_shade + other, i), (two + change, two_shade + other, j),
                  (three + change, three_shade + other, k)]
        ranked = sorted(turned + ranked[3:], reverse=True)
        degree, shade = degree + change, shade + other
        change = degree - ranked[0][0] - ranked[1][0] - ranked[2][0]
    word.extend(_sorting_swaps([rank[2] for rank in ranked]))
    return tuple(word), (degree,) + tuple([rank[0] for rank in ranked])


def falling_turn(entries):
    """The next turn of the falling walk, None at its end; of equal numbers the first ones are taken."""
    ranked = _ranked(entries, shadow_row(len(entries) - 1))[:3]
    if entries[0] >= sum([rank[0] for rank in ranked]):
        return None
    return ("turn",) + tuple(sorted([rank[2] for rank in ranked]))


def fallen(row, most):
    """The degree and the numbers, ascending, to which a row of any number of points falls.

    The walk goes on while the degree is above 0 and no number is below 0; TooMany if it has
    more turns than the most.
    """
    # Which point has which number matters to no turn.
    degree, numbers = row[0], sorted(row[1:])
    turns = 0
    while degree > 0 and numbers[0] >= 0:
        one, two, three = numbers[-3:]
        over = one + two + three - degree
        if over <= 0:
            return degree, numbers
        if turns == most:
            raise TooMany(MAX_STEPS)
        turns += 1
        degree = degree - over
        numbers = sorted(numbers[:-3] + [one - over, two - over, three - over])
    return degree, numbers


def barring(end):
    """A standard row that meets the end of a falling walk below 0; None if there are curves."""
    # If the end meets these two at least 0 times, it meets the other plain rows, as
    # (2, 1, 1, 0, ..) and the cubic, so as well: the degree is not below 0, nor below the
    # sum of the first three numbers, so each of the numbers behind is at most a third of it.
    zeros = (0,) * (len(end) - 2)
    for plain in ((1, 0) + zeros, (1, 1) + zeros):
        if product_of(plain, end) < 0:
            return plain
    return None


def finish(end):
    """Steps from the end of the falling walk of a row with curves, and the standard entries there."""
    entries = list(end)
    made = []
    while not stands(entries):
        step = _next_step(entries)
        _do_step(entries, step)
        made.append(step)
    return made, entries


def _is_clearly_far(row):
    """Whether one look tells that a row of nine points is too far."""
    many = product_with_cubic(row)
    numbers = sorted(row[1:], reverse=True)
    if numbers[0] - numbers[-1] <= _NEAR * many:
        return False
    # The roots of nine points are these, their opposites, and both with multiples of the cubic
    # added. Each exchange and each turn of the walk lessens by one how many of the positive
    # ones the row meets below 0.
    meetings = []
    for i, first in enumerate(numbers):
        for j in range(i + 1, FEW_POINTS):
            meetings.append(first - numbers[j])
            left = row[0] - first - numbers[j]
            meetings.extend([left - number for number in numbers[j + 1:]])
    below = sum([(meeting - 1) // many if meeting > 0 else -(meeting // many) for meeting in meetings])
    return below > _MOST_TOGETHER * MOST_TURNS


def _settled_and_word(row):
    check_few(row)
    if is_level_or_below(row):
        raise Refused(("cubic",))
    word, end = settle(row)
    return short_row(end), word


def _ranked(entries, shadow):
    """The number, that of the shadow and the index of each point, those with the greatest numbers first."""
    return sorted([(entries[at], shadow[at], at - 1) for at in range(1, len(entries))], reverse=True)


def _sorting_swaps(places):
    """Swaps that bring the points at these places to the places 0, 1, .. in order."""
    there = list(range(len(places)))
    swaps = []
    for at, wanted in enumerate(places):
        found = there.index(wanted)
        if found != at:
            swaps.append(("swap", at, found))
            there[at], there[found] = there[found], there[at]
    return swaps


def _next_step(entries):
    below = [at for at in range(len(entries) - 1) if entries[at + 1] < 0]
    if len(below) > 0:
        return ("off", below[0])
    return falling_turn(entries)


def _stepped(row, value):
    """The entries to which the value leads the row, None if it is no steps for it."""
    if not isinstance(value, tuple) or len(value) > MAX_STEPS:
        return None
    entries = list(row)
    for step in value:
        if not _can_step(entries, step):
            return None
        _do_step(entries, step)
    return entries


def _can_step(entries, step):
    many = len(entries) - 1
    if is_move(many, step):
        return step[0] == "turn"
    if not isinstance(step, tuple) or len(step) != 2 or step[0] != "off":
        return False
    return is_from_to(step[1], 0, many - 1) and entries[step[1] + 1] < 0


def _do_step(entries, step):
    if step[0] == "off":
        entries[step[1] + 1] = 0
    else:
        do_move(entries, step)
