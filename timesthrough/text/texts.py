"""Texts of rows, words, points, and told values."""

from timesthrough.base.pieces import integer_of, integers_of, pieces_of
from timesthrough.base.values import is_integer
from timesthrough.errors import InvalidOperation, InvalidRow, ParseError
from timesthrough.plane.points import check_points
from timesthrough.rows.moves import check_word
from timesthrough.rows.rows import MOST_POINTS, check_many, check_row, is_row

_MOST_CHARACTERS = 20000

# Told values are nested at most so deep, and their strings and integers have at most so many signs.
_MOST_DEEP = 8
_MOST_LETTERS = 8
_MOST_DIGITS = 200

_NONE = "none"


def write_row(row):
    """The text of a row."""
    check_row(row)
    return " ".join([str(entry) for entry in row])


def write_word(word):
    """The text of a word."""
    check_word(MOST_POINTS, word)
    return " ".join(["-".join([str(index) for index in move[1:]]) for move in word])


def write_points(prime, points):
    """The text of points over a prime."""
    check_points(prime, points)
    return " ".join([str(prime), "/"] + [",".join([str(rest) for rest in point]) for point in points])


def read_row(text):
    """The row that a text tells."""
    _check_text(text)
    row = tuple([_told(integer_of(piece), index) for index, piece in pieces_of(text)])
    if not is_row(row):
        raise InvalidRow("no row")
    return row


def read_word(n, text):
    """The word of n points that a text tells."""
    check_many(n, MOST_POINTS)
    _check_text(text)
    word = tuple([_told(move_of(piece), index) for index, piece in pieces_of(text)])
    check_word(n, word)
    return word


def read_points(text):
    """The prime and the points that a text tells."""
    _check_text(text)
    pieces = pieces_of(text)
    if len(pieces) == 0:
        raise ParseError(len(text))
    prime = _told(integer_of(pieces[0][1]), pieces[0][0])
    if len(pieces) == 1:
        raise ParseError(len(text))
    if pieces[1][1] != "/":
        raise ParseError(pieces[1][0])
    points = tuple([_told(_point_of(piece), index) for index, piece in pieces[2:]])
    check_points(prime, points)
    return prime, points


def write_value(value):
    """The text of a told value."""
    if not _is_told_value(value, _MOST_DEEP):
        raise InvalidOperation("no told value")
    return _value_text(value)


def read_value(text):
    """The told value with just this text."""
    _check_text(text)
    value, end = _value_at(text, 0, _MOST_DEEP)
    if end < len(text):
        raise ParseError(end)
    return value


def move_of(piece):
    """The move that a piece tells, with indices of at most two digits; None if it tells none."""
    indices = integers_of(piece, "-", 99)
    if indices is None or len(indices) not in (2, 3):
        return None
    return ("swap" if len(indices) == 2 else "turn",) + indices


def _point_of(piece):
    rests = integers_of(piece, ",", 99999)
    return rests if rests is not None and len(rests) == 3 else None


def _told(value, index):
    """What a piece tells; ParseError with its index if this is None."""
    if value is None:
        raise ParseError(index)
    return value


def _check_text(text):
    if not isinstance(text, str) or len(text) > _MOST_CHARACTERS:
        raise ParseError(None)


def _is_told_value(value, deep):
    """Whether the value is a told one, with so many levels of tuples at most."""
    if isinstance(value, tuple):
        return deep > 0 and all([_is_told_value(part, deep - 1) for part in value])
    if isinstance(value, str):
        return 1 <= len(value) <= _MOST_LETTERS and all(["a" <= sign <= "z" for sign in value])
    return value is None or is_integer(value)


def _value_text(value):
    if value is None:
        return _NONE
    if isinstance(value, str):
        return "'" + value
    if isinstance(value, tuple):
        return "(" + " ".join([_value_text(part) for part in value]) + ")"
    return str(value)


def _value_at(text, at, deep):
    """The value whose text begins at an index, and the index behind it."""
    sign = text[at:at + 1]
    if sign == "(" and deep > 0:
        return _tuple_at(text, at + 1, deep - 1)
    if sign == "'":
        end = _end_of_run(text, at + 1, "a", "z", _MOST_LETTERS)
        return text[at + 1:end], end
    if sign == "n":
        for index in range(1, len(_NONE)):
            _check_sign(text, at + index, _NONE[index], _NONE[index])
        return None, at + len(_NONE)
    return _integer_at(text, at)


def _tuple_at(text, at, deep):
    """The tuple whose first part, or closing bracket, is at an index, and the index behind it."""
    found = []
    if text[at:at + 1] == ")":
        return (), at + 1
    value, at = _value_at(text, at, deep)
    found.append(value)
    while text[at:at + 1] == " ":
        value, at = _value_at(text, at + 1, deep)
        found.append(value)
    _check_sign(text, at, ")", ")")
    return tuple(found), at + 1


def _integer_at(text, at):
    if text[at:at + 1] == "0":
        return 0, at + 1
    first = at + 1 if text[at:at + 1] == "-" else at
    _check_sign(text, first, "1", "9")
    end = _end_of_run(text, first, "0", "9", _MOST_DIGITS)
    return int(text[at:end]), end


def _end_of_run(text, at, low, high, most):
    """The index behind a run of signs in this range, at least one and at most so many."""
    _check_sign(text, at, low, high)
    end = at + 1
    while end < at + most and low <= text[end:end + 1] <= high:
        end += 1
    return end


def _check_sign(text, at, low, high):
    """Raises ParseError unless a sign in this range stands at the index."""
    if not low <= text[at:at + 1] <= high:
        raise ParseError(at)
