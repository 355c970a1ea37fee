"""Moves, words of moves, and the maps that they make."""

from timesthrough.base.values import is_from_to
from timesthrough.errors import InvalidMap, InvalidWord
from timesthrough.rows.rows import LEAST_POINTS, MOST_POINTS, check_many, check_row
from timesthrough.rows.rows import is_row, line_row, point_row, product_of, product_with_cubic, short_row

MAX_WORD = 2000


def is_word(n, value):
    """Whether the value is a word of n points."""
    check_many(n, MOST_POINTS)
    return _is_word(n, value)


def undone(word):
    """The word with the same moves, the last one first."""
    check_word(MOST_POINTS, word)
    return word[::-1]


def moved(row, word):
    """The row that a word makes of a row."""
    check_row(row)
    check_word(len(row) - 1, word)
    return short_row(moved_far(row, word))


def map_of(n, word):
    """The map that takes the unit rows to what the word makes of them."""
    check_many(n, MOST_POINTS)
    check_word(n, word)
    return tuple([short_row(entries) for entries in _moved_units(n, word)])


def is_map(value):
    """Whether the value is a map of 3 to 16 points."""
    if not isinstance(value, tuple) or not LEAST_POINTS < len(value) <= MOST_POINTS + 1:
        return False
    if not all([is_row(row) and len(row) == len(value) for row in value]):
        return False
    if not all([_keeps_unit_products(value, at) for at in range(len(value))]):
        return False
    return all([product_with_cubic(row) == (3 if at == 0 else 1) for at, row in enumerate(value)])


def moved_by(row, told_map):
    """What a map takes a row to."""
    check_row(row)
    _check_map(told_map, len(row))
    return short_row(taken_by(row, told_map))


def joined(one, other):
    """The map that takes each row to where the second takes what the first takes it to."""
    _check_map(one, None)
    _check_map(other, len(one))
    return tuple([short_row(taken_by(row, other)) for row in one])


def back(told_map):
    """The map that takes all back."""
    _check_map(told_map, None)
    # The product with a unit row is the entry at its index, so this turns the map over.
    return tuple([tuple([row[at] for row in told_map]) for at in range(len(told_map))])


def acts_alike(n, one, other):
    """Whether two words of n points make the same row of each row."""
    check_many(n, MOST_POINTS)
    check_word(n, one)
    check_word(n, other)
    return _moved_units(n, one) == _moved_units(n, other)


def check_word(n, word):
    """Raises InvalidWord unless the argument is a word of n points; n was checked."""
    if not _is_word(n, word):
        raise InvalidWord("no word of so many points")


def is_move(n, value):
    """Whether the value is a move of n points; n was checked."""
    if not isinstance(value, tuple) or len(value) not in (3, 4):
        return False
    name = "swap" if len(value) == 3 else "turn"
    if value[0] != name or not all([is_from_to(index, 0, n - 1) for index in value[1:]]):
        return False
    return all([low < high for low, high in zip(value[1:], value[2:])])


def do_move(entries, move):
    """Does a move on the list of the entries of a row."""
    if move[0] == "swap":
        i, j = move[1] + 1, move[2] + 1
        entries[i], entries[j] = entries[j], entries[i]
    else:
        i, j, k = move[1] + 1, move[2] + 1, move[3] + 1
        change = entries[0] - entries[i] - entries[j] - entries[k]
        for at in (0, i, j, k):
            entries[at] = entries[at] + change


def moved_far(row, word):
    """The entries that a word makes of a row, however long; nothing is checked."""
    entries = list(row)
    for move in word:
        do_move(entries, move)
    return entries


def led_back(row, word):
    """The row from which a word leads to this one; nothing is checked but how long its entries are."""
    return short_row(moved_far(row, word[::-1]))


def taken_by(row, told_map):
    """The entries to which a map takes a row, however long; nothing is checked."""
    factors = [row[0]] + [-number for number in row[1:]]
    return [sum([factor * line[at] for factor, line in zip(factors, told_map)]) for at in range(len(row))]


def unit_rows(n):
    """The row of lines and the n point rows."""
    return [line_row(n)] + [point_row(n, index) for index in range(n)]


def _is_word(n, value):
    if not isinstance(value, tuple) or len(value) > MAX_WORD:
        return False
    return all([is_move(n, move) for move in value])


def _check_map(told_map, many):
    """Raises InvalidMap unless this is a map, and of so many rows if that is told."""
    if not is_map(told_map):
        raise InvalidMap("no map")
    if many is not None and len(told_map) != many:
        raise InvalidMap("a map of another number of points")


def _keeps_unit_products(rows, at):
    """Whether the row at an index has the products of a unit row with those up to it."""
    own = 1 if at == 0 else -1
    told = [product_of(rows[at], row) for row in rows[:at + 1]]
    return told == [0] * at + [own]


def _moved_units(n, word):
    return [moved_far(row, word) for row in unit_rows(n)]
