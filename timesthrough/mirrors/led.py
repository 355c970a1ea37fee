"""Rows that are led to one another, and the roots that keep a row."""

from timesthrough.count.steps import settle
from timesthrough.errors import Refused, TooMany
from timesthrough.mirrors.roots import group_order, is_root, is_up, move_of, roots, turned_far
from timesthrough.rows.moves import check_word, do_move, is_word, moved_far, undone, unit_rows
from timesthrough.rows.rows import FINITE_POINTS, check_few, check_rows, plus_times, product_of, short_row

_MOST_LED_ROWS = 2000
_MOST_TURNS = 120


def led(one, other):
    """A word that leads the first row to the second one, None if there is none."""
    _check_two(one, other)
    word, end = settle(one)
    other_word, other_end = settle(other)
    return word + undone(other_word) if end == other_end else None


def does_lead(one, other, value):
    """Whether the value is a word that leads the first row to the second one."""
    _check_two(one, other)
    return is_word(len(one) - 1, value) and tuple(moved_far(one, value)) == other


def parting(one, other):
    """The pair of the settled rows, None if the rows are led to one another."""
    _check_two(one, other)
    _, end = settle(one)
    _, other_end = settle(other)
    return None if end == other_end else (short_row(end), short_row(other_end))


def keepers(row):
    """The roots that meet the row 0 times, ascending."""
    check_few(row, FINITE_POINTS)
    return tuple([root for root in roots(len(row) - 1) if product_of(root, row) == 0])


def keeper_order(row):
    """How many maps the words have that keep the row."""
    left = keepers(row)
    order = 1
    while len(left) > 0:
        # The words that keep the row make of this keeper just those that hang together
        # with it; and those words that keep it, too, have the keepers that it meets 0 times.
        order = order * _hanging_together(left, left[0])
        left = [root for root in left if product_of(root, left[0]) == 0]
    return order


def through_keepers(row, word):
    """At most 120 keepers; turning about them, from the left, acts alike as the word."""
    _check_kept(row, word)
    good = [root for root in keepers(row) if is_up(root)]
    images = {root: tuple(moved_far(root, word)) for root in good}
    found = []
    root = _turned_one(images)
    # Each turn about a root that is turned over leaves fewer of them that are.
    while root is not None:
        found.append(root)
        image = images[root]
        images = {other: plus_times(images[other], product_of(other, root), image) for other in good}
        root = _turned_one(images)
    return tuple(found)


def is_through_keepers(row, word, value):
    """Whether turning about these keepers acts alike as the word."""
    _check_kept(row, word)
    if not isinstance(value, tuple) or len(value) > _MOST_TURNS:
        return False
    if not all([is_root(root) and len(root) == len(row) and product_of(root, row) == 0 for root in value]):
        return False
    for unit in unit_rows(len(row) - 1):
        entries = unit
        for root in value:
            entries = turned_far(entries, root)
        if list(entries) != moved_far(unit, word):
            return False
    return True


def how_many(row):
    """How many rows the row is led to, itself counted."""
    check_few(row, FINITE_POINTS)
    return group_order(len(row) - 1) // keeper_order(row)


def led_rows(row):
    """All rows that the row is led to, ascending."""
    if how_many(row) > _MOST_LED_ROWS:
        raise TooMany(_MOST_LED_ROWS)
    many = len(row) - 1
    moves = [move_of(many, letter) for letter in range(many)]
    seen = {row: True}
    found = [row]
    at = 0
    while at < len(found):
        for move in moves:
            entries = list(found[at])
            do_move(entries, move)
            other = tuple(entries)
            if other not in seen:
                seen[other] = True
                found.append(other)
        at += 1
    return tuple(sorted([short_row(entries) for entries in found]))


def _check_two(one, other):
    check_few(one, FINITE_POINTS)
    check_rows(one, other)


def _check_kept(row, word):
    check_few(row, FINITE_POINTS)
    check_word(len(row) - 1, word)
    if tuple(moved_far(row, word)) != row:
        raise Refused(("moved",))


def _hanging_together(some, first):
    """How many of the roots a chain of meetings leads to from the first one."""
    # A root of the same piece that does not meet the first one meets one that does.
    near = [root for root in some if product_of(root, first) != 0]
    return len([root for root in some if any([product_of(root, other) != 0 for other in near])])


def _turned_one(images):
    """A root whose image is not positive, None if there is none."""
    for root in images:
        if not is_up(images[root]):
            return root
    return None
