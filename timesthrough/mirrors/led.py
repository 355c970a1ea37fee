"""Rows that are led to one another, and the roots that keep a row."""

from timesthrough.count.steps import settle, shadow_row
from timesthrough.errors import Refused, TooMany
from timesthrough.mirrors.diagrams import kinds_of
from timesthrough.mirrors.roots import group_order, is_root, is_up, move_of, root_of, roots, turned_far
from timesthrough.rows.moves import check_word, do_move, is_word, moved_far, unit_rows
from timesthrough.rows.rows import FINITE_POINTS, check_few, check_rows, product_of, short_row

_MOST_LED_ROWS = 2000
_MOST_TURNS = 120


def led(one, other):
    """A word that leads the first row to the second one, None if there is none."""
    _check_two(one, other)
    word, end = settle(one)
    other_word, other_end = settle(other)
    return word + other_word[::-1] if end == other_end else None


def does_lead(one, other, value):
    """Whether the value is a word that leads the first row to the second one."""
    _check_two(one, other)
    return is_word(len(one) - 1, value) and tuple(moved_far(one, value)) == other


def parting(one, other):
    """The pair of the settled rows, None if the rows are led to one another."""
    _check_two(one, other)
    _, end = settle(one)
    _, other_end = settle(other)
    return None if end == other_end else (short_row(end), short_row(other_end))


def keepers(row):
    """The roots that meet the row 0 times, ascending."""
    check_few(row, FINITE_POINTS)
    return tuple([root for root in roots(len(row) - 1) if product_of(root, row) == 0])


def keeper_order(row):
    """How many maps the words have that keep the row."""
    check_few(row, FINITE_POINTS)
    many = len(row) - 1
    _, end = settle(row)
    # As many maps keep the settled row; it meets no root of a letter below 0, so all of them
    # are of words with those letters alone whose roots it meets 0 times.
    plain = [root_of(many, letter) for letter in range(many)]
    order = 1
    for letter, size in kinds_of([root for root in plain if product_of(root, end) == 0]):
        order = order * _order_of_kind(letter, size)
    return order


def through_keepers(row, word):
    """At most 120 keepers; turning about them, from the left, acts alike as the word."""
    _check_kept(row, word)
    good = [root for root in keepers(row) if is_up(root)]
    # A root is positive just if it meets the shadow row above 0 times. Words keep products:
    # so the shadow row is led back in the place of leading each root.
    shadow = moved_far(shadow_row(len(row) - 1), word[::-1])
    found = []
    root = _turned_one(good, shadow)
    # Each turn about a root that is turned over leaves fewer of them that are.
    while root is not None:
        found.append(root)
        shadow = turned_far(shadow, root)
        root = _turned_one(good, shadow)
    return tuple(found)


def is_through_keepers(row, word, value):
    """Whether turning about these keepers acts alike as the word."""
    _check_kept(row, word)
    if not isinstance(value, tuple) or len(value) > _MOST_TURNS:
        return False
    if not all([is_root(root) and len(root) == len(row) and product_of(root, row) == 0 for root in value]):
        return False
    for unit in unit_rows(len(row) - 1):
        entries = unit
        for root in value:
            entries = turned_far(entries, root)
        if list(entries) != moved_far(unit, word):
            return False
    return True


def how_many(row):
    """How many rows the row is led to, itself counted."""
    check_few(row, FINITE_POINTS)
    return group_order(len(row) - 1) // keeper_order(row)


def led_rows(row):
    """All rows that the row is led to, ascending."""
    if how_many(row) > _MOST_LED_ROWS:
        raise TooMany(_MOST_LED_ROWS)
    many = len(row) - 1
    moves = [move_of(many, letter) for letter in range(many)]
    seen = {row: True}
    found = [row]
    at = 0
    while at < len(found):
        for move in moves:
            entries = list(found[at])
            do_move(entries, move)
            other = tuple(entries)
            if other not in seen:
                seen[other] = True
                found.append(other)
        at += 1
    return tuple(sorted([short_row(entries) for entries in found]))


def _check_two(one, other):
    check_few(one, FINITE_POINTS)
    check_rows(one, other)


def _check_kept(row, word):
    check_few(row, FINITE_POINTS)
    check_word(len(row) - 1, word)
    if tuple(moved_far(row, word)) != row:
        raise Refused(("moved",))


def _order_of_kind(letter, size):
    """How many maps the turns about roots have that hang together in this way."""
    if letter == "e":
        return group_order(size)
    order = 1 if letter == "d" else size + 1
    for factor in range(2, size + 1):
        order = order * (2 * factor if letter == "d" else factor)
    return order


def _turned_one(some, shadow):
    """One of the roots that meets the shadow row below 0, None if there is none."""
    for root in some:
        if product_of(root, shadow) < 0:
            return root
    return None
