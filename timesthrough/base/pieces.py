"""Pieces of texts, and the integers that they tell."""

from timesthrough.base.values import is_from_to

_MOST_DIGITS = 200


def pieces_of(text):
    """The longest parts of a text without blanks, each behind the index at which it begins."""
    found = []
    at = 0
    for part in text.split(" "):
        if part != "":
            found.append((at, part))
        at += len(part) + 1
    return found


def integer_of(piece):
    """The integer that a piece tells, None if it tells none."""
    digits = piece[1:] if piece.startswith("-") else piece
    if not 1 <= len(digits) <= _MOST_DIGITS or not all(["0" <= sign <= "9" for sign in digits]):
        return None
    # Neither 0 with a sign, nor zeros ahead.
    if digits[0] == "0" and piece != "0":
        return None
    return int(piece)


def integers_of(piece, sign, most):
    """The integers from 0 to the most that stand in a piece with the sign between them, None if other things do."""
    found = [integer_of(part) for part in piece.split(sign)]
    return tuple(found) if all([is_from_to(number, 0, most) for number in found]) else None
