"""Hands: calls that are made beside other hands, and committed to a shelf together."""

from timesthrough.errors import InvalidOperation, Refused, TooMany
from timesthrough.house.shelf import MAX_EDITS, Shelf, decide, edited, is_edit, refusal, verdict_of

MAX_CALLS = 40


class Hand:
    """Calls on the rows of an edition of a shelf."""

    def __init__(self, shelf):
        if not isinstance(shelf, Shelf):
            raise InvalidOperation("no shelf")
        self._shelf = shelf
        self._calls = []
        self._stand_on_last()

    @property
    def base(self):
        """The number of the edition on which the hand stands."""
        return self._base

    @property
    def calls(self):
        """The edits, and the questions with the verdicts that were told, in order."""
        return tuple(self._calls)

    @property
    def rows_now(self):
        """The rows of the base behind the edits."""
        return {name: self._rows_now[name] for name in self._rows_now}

    @property
    def points_now(self):
        """How many points these rows have."""
        return self._points_now

    def change(self, edit):
        """Does an edit on the rows of the hand."""
        if not is_edit(edit):
            raise InvalidOperation("no edit")
        word = refusal(self._points_now, self._rows_now, edit)
        if word is not None:
            raise Refused(("edit", word))
        if len(_edits(self._calls)) == MAX_EDITS:
            raise TooMany(MAX_EDITS)
        if len(self._calls) == MAX_CALLS:
            raise TooMany(MAX_CALLS)
        self._points_now, self._rows_now = edited(self._points_now, self._rows_now, edit)
        self._calls.append(("edit", edit))

    def ask(self, question):
        """The verdict of a question about the rows of the hand, and a paper."""
        answer = decide(self._rows_now, question)
        if len(self._calls) == MAX_CALLS:
            raise TooMany(MAX_CALLS)
        self._calls.append(("ask", question, answer[0]))
        return answer

    def commit(self):
        """Makes a further edition of the shelf by the edits, and returns its number."""
        edits = _edits(self._calls)
        if len(edits) == 0:
            raise Refused(("empty",))
        self._replayed(True)
        number = self._shelf.edit(tuple(edits))
        self._calls = []
        self._stand_on_last()
        return number

    def renew(self):
        """Takes the last edition as base, and returns its number; the edits stay."""
        points, rows = self._replayed(False)
        self._calls = [call for call in self._calls if call[0] == "edit"]
        self._stand_on_last()
        self._points_now, self._rows_now = points, rows
        return self._base

    def __len__(self):
        return len(self._calls)

    def __eq__(self, other):
        return (isinstance(other, Hand) and self._shelf == other._shelf
                and self._base == other._base and self._calls == other._calls)

    def __str__(self):
        return f"hand on {self._base}, {len(self._calls)} calls"

    def _stand_on_last(self):
        self._base = self._shelf.editions
        self._points_now = self._shelf.points_at()
        self._rows_now = self._shelf.rows_at()

    def _replayed(self, are_asked):
        """The points and rows behind the calls on the last edition; Refused if an edit, or a question, fails."""
        points, rows = self._shelf.points_at(), self._shelf.rows_at()
        for at, call in enumerate(self._calls):
            if call[0] == "edit":
                if refusal(points, rows, call[1]) is not None:
                    raise Refused(("call", at))
                points, rows = edited(points, rows, call[1])
            elif are_asked and verdict_of(rows, call[1]) != call[2]:
                raise Refused(("call", at))
        return points, rows


def _edits(calls):
    return [call[1] for call in calls if call[0] == "edit"]
