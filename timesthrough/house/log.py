"""Logs: texts that tell a shelf by the calls that made it."""

from timesthrough.base.pieces import integer_of
from timesthrough.errors import InvalidNumber, InvalidOperation, InvalidRow, ParseError, Refused, TooMany
from timesthrough.house.shelf import Shelf

# How many indices stand behind the word of a move.
_INDICES = {"swap": 2, "turn": 3}


def log_text(shelf):
    """The log of a shelf."""
    if not isinstance(shelf, Shelf):
        raise InvalidOperation("no shelf")
    lines = [_first_line(shelf)] + [_call_line(call) for call in shelf.history]
    return "".join([line + "\n" for line in lines])


def read_log(text):
    """The shelf that a log tells, and how many characters its lines have."""
    if not isinstance(text, str):
        raise ParseError(None)
    # What stands behind the last newline is no line.
    lines = text.split("\n")[:-1]
    shelf = _told_shelf(lines[0]) if len(lines) > 0 else None
    if shelf is None:
        raise ParseError(0)
    for at in range(1, len(lines)):
        if not _is_done(shelf, lines[at]):
            raise ParseError(at)
    return shelf, sum([len(line) + 1 for line in lines])


def _first_line(shelf):
    rows = shelf.rows_at(1)
    parts = [f"shelf {shelf.points_at(1)}"] + [_named(name, rows[name]) for name in rows]
    return " / ".join(parts)


def _named(name, row):
    return " ".join([name] + [str(entry) for entry in row])


def _call_line(call):
    if call[0] == "pin":
        return " ".join(("pin",) + call[1])
    return "edit " + " / ".join([_edit_text(edit) for edit in call[1]])


def _edit_text(edit):
    if edit[0] == "put":
        return "put " + _named(edit[1], edit[2])
    if edit[0] == "move":
        return " ".join(["move"] + [str(part) for move in edit[1] for part in move])
    return " ".join([str(part) for part in edit])


def _told_shelf(line):
    """The shelf that the first line tells, None if it is wrong."""
    groups = _groups(line.split(" "))
    first = groups[0]
    if len(first) != 2 or first[0] != "shelf":
        return None
    rows = {}
    for group in groups[1:]:
        if len(group) == 0:
            return None
        rows[group[0]] = _integers(group[1:])
    try:
        shelf = Shelf(integer_of(first[1]), rows)
    except (InvalidNumber, InvalidRow):
        return None
    return shelf if _first_line(shelf) == line else None


def _is_done(shelf, line):
    """Whether a line tells a call, as a log does, that the shelf does."""
    pieces = line.split(" ")
    if pieces[0] == "pin":
        call = ("pin", tuple(pieces[1:]))
    elif pieces[0] == "edit":
        call = ("edit", tuple([_told_edit(group) for group in _groups(pieces[1:])]))
    else:
        return False
    try:
        if call[0] == "pin":
            shelf.pin(call[1])
        else:
            shelf.edit(call[1])
    except (InvalidOperation, Refused, TooMany):
        return False
    return _call_line(call) == line


def _groups(pieces):
    """The lists of pieces between those that are a slash."""
    found = [[]]
    for piece in pieces:
        if piece == "/":
            found.append([])
        else:
            found[-1].append(piece)
    return found


def _integers(pieces):
    return tuple([integer_of(piece) for piece in pieces])


def _told_edit(group):
    """The edit that pieces tell; what is no edit if they tell none."""
    if len(group) == 0:
        return None
    if group[0] == "put":
        return tuple(group[:2]) + (_integers(group[2:]),)
    if group[0] == "less":
        return ("less",) + _integers(group[1:])
    if group[0] == "move":
        return ("move", _told_word(group[1:]))
    return tuple(group)


def _told_word(pieces):
    """The moves that pieces tell, None if they tell none."""
    found = []
    at = 0
    while at < len(pieces):
        many = _INDICES.get(pieces[at], 0)
        if many == 0:
            return None
        found.append((pieces[at],) + _integers(pieces[at + 1:at + 1 + many]))
        at += 1 + many
    return tuple(found)
