"""A shell: lines that tell a shelf what to do, and their answers."""

from timesthrough.base.pieces import integer_of, pieces_of
from timesthrough.base.values import is_name
from timesthrough.count.counts import count, has_curves
from timesthrough.count.parts import parts
from timesthrough.count.steps import settled
from timesthrough.errors import InvalidNumber, InvalidOperation, Refused, ThroughError, TooMany
from timesthrough.house.shelf import Shelf, decide
from timesthrough.text.texts import move_of, write_row, write_value

MAX_LINE = 2000

_MOST_LINES = 40

# The kinds of pieces that stand behind the first piece of a line.
_PIECES = {
    "put": ("name", "sign", "integer"),
    "drop": ("name",),
    "more": (),
    "less": ("integer",),
    "move": (),
    "ask": ("question", "name"),
    "pin": ("question", "name"),
    "stand": ("integer",),
    "count": ("name",),
    "settle": ("name",),
    "parts": ("name",),
    "names": (),
}

# The kinds of pieces that may follow behind these, any number of them.
_FURTHER = {"put": "integer", "move": "move"}

_QUESTIONS = ("some", "clear", "free", "led")


class Shell:
    """A shelf that does what lines tell."""

    def __init__(self, shelf):
        if not isinstance(shelf, Shelf):
            raise InvalidOperation("no shelf")
        self._shelf = shelf
        self._said = 0

    @property
    def said(self):
        """How many lines were said."""
        return self._said

    def say(self, line):
        """Does what a line tells, and returns its answer."""
        if not _is_line(line):
            raise InvalidOperation("no line")
        self._said += 1
        pieces = pieces_of(line)
        wrong = _first_wrong(pieces, len(line))
        if wrong is not None:
            return f"wrong at {wrong}"
        return _answer(self._shelf, [piece for _, piece in pieces])

    def run(self, lines):
        """The answers of a tuple of lines, said one after the other."""
        if not isinstance(lines, tuple) or len(lines) > _MOST_LINES:
            raise InvalidOperation("no tuple of at most forty lines")
        if not all([_is_line(line) for line in lines]):
            raise InvalidOperation("no line")
        return tuple([self.say(line) for line in lines])

    def __str__(self):
        return f"shell, {self._said} lines said"


def _is_line(value):
    if not isinstance(value, str) or len(value) > MAX_LINE:
        return False
    return all([" " <= sign <= "~" for sign in value])


def _first_wrong(pieces, end):
    """The index of the first piece that cannot stand where it stands, the end if one is lacking, otherwise None."""
    if len(pieces) == 0:
        return None
    first = pieces[0][1]
    if first not in _PIECES:
        return pieces[0][0]
    kinds = _PIECES[first]
    if "question" in kinds and len(pieces) > 1 and pieces[1][1] == "led":
        kinds = kinds + ("name",)
    for at in range(1, len(pieces)):
        index, piece = pieces[at]
        kind = kinds[at - 1] if at <= len(kinds) else _FURTHER.get(first, "none")
        if not _is_of_kind(kind, piece):
            return index
    return end if len(pieces) <= len(kinds) else None


def _is_of_kind(kind, piece):
    if kind == "name":
        return is_name(piece)
    if kind == "sign":
        return piece == "="
    if kind == "integer":
        return integer_of(piece) is not None
    if kind == "move":
        return move_of(piece) is not None
    return kind == "question" and piece in _QUESTIONS


def _answer(shelf, words):
    """The answer of a line with these pieces, each of which can stand there."""
    if len(words) == 0:
        return ""
    try:
        return _done(shelf, words[0], words[1:])
    except Refused as refused:
        return f"refused {refused.reason[2]}"
    except TooMany as many:
        return f"too many {many.limit}"
    except (ThroughError, InvalidNumber):
        return "invalid"


def _done(shelf, word, told):
    if word == "ask":
        verdict, paper = decide(shelf.rows_at(), tuple(told))
        return ("yes " if verdict else "no ") + write_value(paper)
    if word == "pin":
        return f"claim {shelf.pin(tuple(told))}"
    if word == "stand":
        return shelf.standing(integer_of(told[0]))[0]
    if word == "names":
        return " ".join(list(shelf.rows_at()))
    if word in ("count", "settle", "parts"):
        return _row_answer(shelf, word, told[0])
    return f"edition {shelf.edit((_edit(word, told),))}"


def _row_answer(shelf, word, name):
    if name not in shelf:
        raise InvalidOperation("no such name")
    row = shelf.rows_at()[name]
    if word == "count":
        return str(count(row))
    if word == "settle":
        return write_row(settled(row))
    return write_value(parts(row) if has_curves(row) else None)


def _edit(word, told):
    if word == "put":
        return ("put", told[0], tuple([integer_of(piece) for piece in told[2:]]))
    if word == "less":
        return ("less", integer_of(told[0]))
    if word == "move":
        return ("move", tuple([move_of(piece) for piece in told]))
    return (word,) + tuple(told)
