"""Renamings of exceptional rows, and the threes, sixes and pairs that they carry to one another."""

from timesthrough.count.steps import settle, shadow_row
from timesthrough.errors import InvalidLot, InvalidName, InvalidNumber, InvalidRow, Refused
from timesthrough.lots.apart import are_apart, line_with
from timesthrough.mirrors.roots import is_up, roots
from timesthrough.rows.exceptional import exceptional_rows, is_exceptional
from timesthrough.rows.moves import map_of, taken_by
from timesthrough.rows.rows import FINITE_POINTS, check_many, is_row, point_row, product_of

# Threes and sixes are of so many points.
_SIX = 6
_CUBIC = (3, 1, 1, 1, 1, 1, 1)


def is_renaming(n, value):
    """Whether the value is a renaming for n points."""
    check_many(n, FINITE_POINTS)
    return _are_names(n, value) and _bar(n, value) is None


def renaming_of(n, word):
    """The renaming that a word makes."""
    check_many(n, FINITE_POINTS)
    rows = map_of(n, word)
    return {row: tuple(taken_by(row, rows)) for row in exceptional_rows(n)}


def names_word(n, names):
    """A word that makes the names, None if they are no renaming."""
    _check_names(n, names)
    lot = tuple([names[point_row(n, index)] for index in range(n)])
    if not are_apart(lot):
        return None
    rows = (line_with(lot),) + lot
    if any([tuple(taken_by(row, rows)) != names[row] for row in names]):
        return None
    # What leads the shadow row back, behind the map, undoes the map.
    return settle(taken_by(shadow_row(n), rows))[0][::-1]


def names_bar(n, names):
    """A pair of rows that meet otherwise than those that stand for them, None for a renaming."""
    _check_names(n, names)
    return _bar(n, names)


def is_names_bar(n, names, value):
    """Whether the value is such a pair."""
    _check_names(n, names)
    if not isinstance(value, tuple) or len(value) != 2:
        return False
    if not all([_is_exceptional_of(n, row) for row in value]):
        return False
    one, other = value
    return one < other and product_of(one, other) != product_of(names[one], names[other])


def renaming_by(n, lot):
    """The renaming that sends each point row to the row of the lot with this index."""
    check_many(n, FINITE_POINTS)
    if not are_apart(lot) or len(lot) != n or len(lot[0]) != n + 1:
        raise InvalidLot("no lot of so many rows and points")
    rows = (line_with(lot),) + lot
    return {row: tuple(taken_by(row, rows)) for row in exceptional_rows(n)}


def third(one, other):
    """The row of six points that meets both rows once."""
    _check_exceptional(_SIX, one)
    _check_exceptional(_SIX, other)
    if product_of(one, other) != 1:
        raise Refused(("apart",))
    return _third(one, other)


def threes():
    """All threes, ascending."""
    rows = exceptional_rows(_SIX)
    found = []
    for at, one in enumerate(rows):
        for other in rows[at + 1:]:
            if product_of(one, other) == 1:
                found.append((one, other, _third(one, other)))
    # Each three is found by each two of its rows, and ascends once.
    return tuple([three for three in found if three[1] < three[2]])


def threes_of(row):
    """All threes with this row, ascending."""
    _check_exceptional(_SIX, row)
    return tuple([three for three in threes() if row in three])


def other_half(six):
    """The rows that meet all rows of the six but one, ascending."""
    if not are_apart(six) or len(six) != _SIX or len(six[0]) != _SIX + 1:
        raise InvalidLot("no six")
    if list(six) != sorted(six):
        raise InvalidLot("a six that does not ascend")
    return _other_half(six)


def sixes():
    """All double sixes, each with the lesser six first, ascending."""
    rows = exceptional_rows(_SIX)
    found = []
    # The rows that meet a root once, and those that meet it -1 times, are a double six; each
    # double six comes of one root and its opposite.
    for root in roots(_SIX):
        if is_up(root):
            times = [product_of(row, root) for row in rows]
            halves = [tuple([row for row, many in zip(rows, times) if many == told]) for told in (1, -1)]
            found.append(tuple(sorted(halves)))
    return tuple(sorted(found))


def partner(row):
    """The row that an exceptional row of seven points meets twice, or of eight points three times."""
    if not _is_exceptional_of(7, row) and not _is_exceptional_of(8, row):
        raise InvalidRow("no exceptional row of seven or eight points")
    return _partner(row)


def pairs(n):
    """All pairs of partners, each ascending, ascending."""
    check_many(n, FINITE_POINTS)
    if n < 7:
        raise InvalidNumber(n)
    both = [(row, _partner(row)) for row in exceptional_rows(n)]
    return tuple([pair for pair in both if pair[0] < pair[1]])


def _is_exceptional_of(n, value):
    return is_row(value) and len(value) == n + 1 and is_exceptional(value)


def _check_exceptional(n, row):
    if not _is_exceptional_of(n, row):
        raise InvalidRow("no exceptional row of so many points")


def _are_names(n, value):
    """Whether the value is a dict from all exceptional rows to all of them."""
    if not isinstance(value, dict):
        return False
    rows = list(exceptional_rows(n))
    return _are_just(list(value), rows) and _are_just(list(value.values()), rows)


def _are_just(values, rows):
    """Whether the values are these rows, in any order; the rows ascend."""
    if len(values) != len(rows):
        return False
    # Where all entries are integers, and none is True, equal tuples are the same rows.
    for value in values:
        if not isinstance(value, tuple) or len(value) != len(rows[0]):
            return False
        for entry in value:
            if not isinstance(entry, int) or isinstance(entry, bool):
                return False
    return sorted(values) == rows


def _check_names(n, names):
    check_many(n, FINITE_POINTS)
    if not _are_names(n, names):
        raise InvalidName("no names of all exceptional rows")


def _bar(n, names):
    """The first pair of rows that meet otherwise than those that stand for them, or None."""
    rows = exceptional_rows(n)
    stand = [names[row] for row in rows]
    # The rows of the points come first. A row is told by what they meet it: so if all meet
    # the others as they should, the names are those that the lot standing for them makes.
    for at in range(n):
        for where in range(at + 1, len(rows)):
            if product_of(stand[at], stand[where]) != rows[where][at + 1]:
                return (rows[at], rows[where])
    return None


def _third(one, other):
    """What two rows lack to the cubic of six points; nothing is checked."""
    return tuple([entry - left - right for entry, left, right in zip(_CUBIC, one, other)])


def _partner(row):
    """The partner of a row of seven or eight points; nothing is checked."""
    # Partners add up to the cubic of seven points, or to twice that of eight.
    times = len(row) - 7
    return (3 * times - row[0],) + tuple([times - number for number in row[1:]])


def _other_half(six):
    """The other half of a six, which was checked."""
    rows = exceptional_rows(_SIX)
    return tuple([row for row in rows if [product_of(row, other) for other in six].count(1) == _SIX - 1])
