"""A shelf: named rows in editions, and claims about them."""

from timesthrough.base.values import is_from_to, is_name, is_same
from timesthrough.count.counts import bar, has_curves, is_bar
from timesthrough.count.free import free_word, is_free_word, is_met, met
from timesthrough.count.parts import is_parts, parts
from timesthrough.count.steps import is_steps, steps
from timesthrough.errors import InvalidNumber, InvalidOperation, InvalidRow, Refused, TooMany
from timesthrough.mirrors.led import does_lead, led, parting
from timesthrough.rows.exceptional import is_exceptional
from timesthrough.rows.moves import is_word, moved_far
from timesthrough.rows.rows import FINITE_POINTS, LEAST_POINTS, is_row, product_of

MAX_NAMED = 20
MAX_CLAIMS = 20
MAX_EDITIONS = 40
MAX_EDITS = 10

# The least integer of more than 100 digits: these are too great for named rows.
_TOO_GREAT = (10 ** 50) ** 2

# Questions about one row.
_OF_ONE = ("some", "clear", "free")


def is_question(value):
    """Whether the value is a question by its form."""
    if not isinstance(value, tuple) or not all([is_name(part) for part in value]):
        return False
    if len(value) == 2:
        return value[0] in _OF_ONE
    return len(value) == 3 and value[0] == "led"


def decide(rows, question):
    """The verdict of a question about named rows, and a paper for it."""
    _check_rows(rows)
    _check_question(rows, question)
    return _decided(rows, question)


def is_paper(rows, question, verdict, value):
    """Whether the value is a paper that shows the verdict of a question."""
    _check_rows(rows)
    _check_question(rows, question)
    if not isinstance(verdict, bool):
        raise InvalidOperation("no verdict")
    return _shows(rows, question, verdict, value)


def is_edit(value):
    """Whether the value is an edit by its form."""
    if not isinstance(value, tuple) or len(value) == 0 or not isinstance(value[0], str):
        return False
    word, told = value[0], value[1:]
    if word == "put":
        return len(told) == 2 and is_name(told[0]) and _is_small_row(told[1])
    if word == "more":
        return len(told) == 0
    if len(told) != 1:
        return False
    if word == "drop":
        return is_name(told[0])
    if word == "less":
        return is_from_to(told[0], 0, FINITE_POINTS - 1)
    return word == "move" and is_word(FINITE_POINTS, told[0])


class Shelf:
    """Named rows of one number of points, as they are edited, and claims that are pinned."""

    def __init__(self, points, rows=None):
        if not is_from_to(points, LEAST_POINTS, FINITE_POINTS):
            raise InvalidNumber(points)
        named = {} if rows is None else rows
        _check_rows(named)
        if not all([len(row) == points + 1 for row in named.values()]):
            raise InvalidRow("a row of another number of points")
        self._editions = [(points, _sorted_rows(named))]
        self._claims = []
        self._fallen = ()
        self._history = []

    @property
    def editions(self):
        """How many editions there are."""
        return len(self._editions)

    @property
    def claims(self):
        """The question, the verdict and the edition of each claim."""
        return tuple(self._claims)

    @property
    def fallen(self):
        """The numbers of the claims that are fallen at the last edition, ascending."""
        return self._fallen

    @property
    def history(self):
        """The calls of edit and pin that were done, in order."""
        return tuple(self._history)

    def edit(self, edits):
        """Makes a further edition by edits, and returns its number."""
        if not isinstance(edits, tuple) or not 1 <= len(edits) <= MAX_EDITS:
            raise InvalidOperation("not one to ten edits")
        if not all([is_edit(edit) for edit in edits]):
            raise InvalidOperation("no edit")
        points, rows = self._editions[-1]
        for at, edit in enumerate(edits):
            word = refusal(points, rows, edit)
            if word is not None:
                raise Refused(("edit", at, word))
            points, rows = edited(points, rows, edit)
        if len(self._editions) == MAX_EDITIONS:
            raise TooMany(MAX_EDITIONS)
        self._editions.append((points, rows))
        self._history.append(("edit", edits))
        self._fallen = _fallen(rows, self._claims)
        return len(self._editions)

    def pin(self, question):
        """Pins a claim at the last edition, and returns its number."""
        _, rows = self._editions[-1]
        verdict, _ = decide(rows, question)
        if len(self._claims) == MAX_CLAIMS:
            raise TooMany(MAX_CLAIMS)
        self._claims.append((question, verdict, len(self._editions)))
        self._history.append(("pin", question))
        return len(self._claims)

    def rows_at(self, edition=None):
        """The named rows of an edition."""
        return _sorted_rows(self._edition(edition)[1])

    def points_at(self, edition=None):
        """The number of points of an edition."""
        return self._edition(edition)[0]

    def standing(self, number, edition=None):
        """How a claim stands at an edition: a word, the verdict there, and a paper."""
        if not is_from_to(number, 1, len(self._claims)):
            raise InvalidNumber(number)
        question, pinned, first = self._claims[number - 1]
        self._edition(edition)
        last = len(self._editions) if edition is None else edition
        if last < first:
            raise InvalidNumber(edition)
        verdict, paper = _decided(self._editions[first - 1][1], question)
        kept = True
        for _, rows in self._editions[first:last]:
            kept = _are_there(rows, question) and _shows(rows, question, pinned, paper)
            if not kept:
                verdict, paper = _decided(rows, question)
        if verdict != pinned:
            return ("fallen", verdict, paper)
        return ("stands" if kept else "another", verdict, paper)

    def twin(self):
        """An equal shelf that changes by itself."""
        points, rows = self._editions[0]
        other = Shelf(points, rows)
        # Editions, claims and calls are never changed themselves.
        other._editions = list(self._editions)
        other._claims = list(self._claims)
        other._fallen = self._fallen
        other._history = list(self._history)
        return other

    def __contains__(self, value):
        return is_name(value) and value in self._editions[-1][1]

    def __len__(self):
        return len(self._editions[-1][1])

    def __eq__(self, other):
        return isinstance(other, Shelf) and self._editions == other._editions and self._claims == other._claims

    def __str__(self):
        return f"shelf of {len(self)} rows at {self._editions[-1][0]} points, edition {len(self._editions)}"

    def _edition(self, edition):
        """The points and the rows of an edition."""
        if edition is None:
            return self._editions[-1]
        if not is_from_to(edition, 1, len(self._editions)):
            raise InvalidNumber(edition)
        return self._editions[edition - 1]


def verdict_of(rows, question):
    """The verdict of a question about named rows, None if a name is not there."""
    return _decided(rows, question)[0]


def refusal(points, rows, edit):
    """The word for which an edit of rows is refused, None if it can be done."""
    word = edit[0]
    if word == "put":
        if len(edit[2]) != points + 1:
            return "points"
        return "many" if edit[1] not in rows and len(rows) == MAX_NAMED else None
    if word == "drop":
        return None if edit[1] in rows else "unknown"
    if word == "more":
        return "many" if points == FINITE_POINTS else None
    if word == "less":
        if edit[1] >= points:
            return "unknown"
        return "few" if points == LEAST_POINTS else None
    if not is_word(points, edit[1]):
        return "unknown"
    return None if all([_are_small(moved_far(row, edit[1])) for row in rows.values()]) else "great"


def edited(points, rows, edit):
    """The number of points and the rows behind an edit that can be done."""
    word = edit[0]
    if word == "put":
        changed = {name: rows[name] for name in rows}
        changed[edit[1]] = edit[2]
        return points, _sorted_rows(changed)
    if word == "drop":
        return points, {name: rows[name] for name in rows if name != edit[1]}
    if word == "more":
        return points + 1, {name: rows[name] + (0,) for name in rows}
    if word == "less":
        at = edit[1] + 1
        return points - 1, {name: rows[name][:at] + rows[name][at + 1:] for name in rows}
    return points, {name: tuple(moved_far(rows[name], edit[1])) for name in rows}


def _check_rows(rows):
    if not _are_named_rows(rows):
        raise InvalidRow("no named rows")


def _check_question(rows, question):
    if not is_question(question) or not _are_there(rows, question):
        raise InvalidOperation("no question about these rows")


def _are_named_rows(value):
    if not isinstance(value, dict) or len(value) > MAX_NAMED:
        return False
    if not all([is_name(name) for name in value]) or not all([_is_small_row(row) for row in value.values()]):
        return False
    return len(set([len(row) for row in value.values()])) <= 1


def _is_small_row(value):
    return is_row(value) and len(value) <= FINITE_POINTS + 1 and _are_small(value)


def _are_small(entries):
    return -_TOO_GREAT < min(entries) and max(entries) < _TOO_GREAT


def _sorted_rows(rows):
    return {name: rows[name] for name in sorted(list(rows))}


def _are_there(rows, question):
    return all([name in rows for name in question[1:]])


def _fallen(rows, claims):
    """The numbers of the claims whose verdict is another one for these rows."""
    return tuple([at + 1 for at, claim in enumerate(claims) if verdict_of(rows, claim[0]) != claim[1]])


def _decided(rows, question):
    """The verdict and a paper, both None if a name is not there."""
    if not _are_there(rows, question):
        return None, None
    row = rows[question[1]]
    if question[0] == "led":
        other = rows[question[2]]
        word = led(row, other)
        return (False, parting(row, other)) if word is None else (True, word)
    if question[0] == "free":
        word = free_word(row)
        return (False, met(row)) if word is None else (True, word)
    if not has_curves(row):
        return False, bar(row)
    if question[0] == "some":
        return True, steps(row)
    found = parts(row)
    twice = [other for other, times in found[1] if times >= 2]
    return (False, twice[0]) if len(twice) > 0 else (True, found)


def _shows(rows, question, verdict, value):
    """Whether the value is a paper; the names are all there."""
    row = rows[question[1]]
    if question[0] == "some":
        return is_steps(row, value) if verdict else is_bar(row, value)
    if question[0] == "free":
        return is_free_word(row, value) if verdict else is_met(row, value)
    if question[0] == "led":
        other = rows[question[2]]
        return does_lead(row, other, value) if verdict else _is_parting(row, other, value)
    if verdict:
        return is_parts(row, value) and all([times == 1 for _, times in value[1]])
    return is_bar(row, value) or has_curves(row) and _is_twice_below(row, value)


def _is_parting(row, other, value):
    told = parting(row, other)
    return told is not None and is_same(value, told)


def _is_twice_below(row, value):
    if not is_row(value) or len(value) != len(row):
        return False
    return is_exceptional(value) and product_of(row, value) <= -2
