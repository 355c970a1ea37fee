"""Roots, and least words of the moves about simple ones."""

from timesthrough.base.values import is_from_to
from timesthrough.count.steps import settle, shadow_row
from timesthrough.errors import InvalidRow, InvalidWord
from timesthrough.rows.moves import check_word, do_move, moved_far
from timesthrough.rows.rows import FINITE_POINTS, check_many, check_row, is_row, plus_times, product_of
from timesthrough.rows.rows import product_with_cubic, short_row
from timesthrough.rows.tables import ROOTS

MAX_LETTERS = 2000

# How many maps words have, for 3 to 8 points.
_ORDERS = (12, 120, 1920, 51840, 2903040, 696729600)


def is_root(value):
    """Whether the value is a row of 3 to 8 points with square -2 that meets the cubic 0 times."""
    if not is_row(value) or len(value) > FINITE_POINTS + 1:
        return False
    return product_of(value, value) == -2 and product_with_cubic(value) == 0


def is_positive(root):
    """Whether the root is positive; otherwise its opposite is."""
    _check_root(root)
    return is_up(root)


def roots(n):
    """All roots of n points, ascending."""
    check_many(n, FINITE_POINTS)
    if n == FINITE_POINTS:
        return ROOTS
    behind = (0,) * (FINITE_POINTS - n)
    return tuple([root[:n + 1] for root in ROOTS if root[n + 1:] == behind])


def turned(row, root):
    """The row turned about the root."""
    check_row(row)
    _check_root(root)
    if len(root) != len(row):
        raise InvalidRow("a root of another number of points")
    return short_row(turned_far(row, root))


def root_word(root):
    """A word that turns each row about the root."""
    _check_root(root)
    # What leads the turned shadow row back undoes the turn; so does the turn itself.
    return settle(turned_far(shadow_row(len(root) - 1), root))[0]


def simple_of(n, word):
    """A simple word that acts like the word."""
    return least_simple(n, word)


def word_of(n, simple):
    """The word of the moves of the letters."""
    check_many(n, FINITE_POINTS)
    _check_simple(n, simple)
    return tuple([move_of(n, letter) for letter in simple])


def turned_roots(n, word):
    """The positive roots that the word makes to others that are not positive, ascending."""
    _check_word(n, word)
    # A root is positive just if it meets the shadow row above 0 times. Words keep products:
    # so the shadow row may be led back in the place of leading each root.
    shadow = moved_far(shadow_row(n), word[::-1])
    return tuple([root for root in roots(n) if is_up(root) and product_of(root, shadow) < 0])


def length(n, word):
    """How many letters a least simple word has that acts like the word."""
    return len(turned_roots(n, word))


def least_simple(n, word):
    """A least simple word that acts like the word."""
    _check_word(n, word)
    shadow = moved_far(shadow_row(n), word)
    letters = []
    letter = _falling_letter(shadow)
    # Each of these letters turns one more of the roots back that the word has turned.
    while letter is not None:
        do_move(shadow, move_of(n, letter))
        letters.append(letter)
        letter = _falling_letter(shadow)
    return tuple(letters[::-1])


def passed(n, simple):
    """The roots that the simple word passes, in order."""
    check_many(n, FINITE_POINTS)
    _check_simple(n, simple)
    plain = [root_of(n, letter) for letter in range(n)]
    # What the letters so far, the last one first, make of the root of each letter.
    images = list(plain)
    found = []
    for letter in simple:
        now = images[letter]
        found.append(now)
        times = [product_of(root, plain[letter]) for root in plain]
        images = [plus_times(image, many, now) for image, many in zip(images, times)]
    return tuple(found)


def is_least(n, simple):
    """Whether no shorter simple word acts alike."""
    return length(n, word_of(n, simple)) == len(simple)


def group_order(n):
    """How many maps the words of n points have."""
    check_many(n, FINITE_POINTS)
    return _ORDERS[n - 3]


def is_up(root):
    """Whether a root is positive; nothing is checked."""
    if root[0] != 0:
        return root[0] > 0
    return [number for number in root if number != 0][0] < 0


def move_of(n, letter):
    """The move of a letter."""
    return ("turn", 0, 1, 2) if letter == n - 1 else ("swap", letter, letter + 1)


def root_of(n, letter):
    """The root of a letter."""
    if letter == n - 1:
        return (1, 1, 1, 1) + (0,) * (n - 3)
    return (0,) * (letter + 1) + (-1, 1) + (0,) * (n - letter - 2)


def turned_far(row, root):
    """The row turned about the root, as a tuple with entries of any length; nothing is checked."""
    return plus_times(row, product_of(row, root), root)


def _check_root(root):
    if not is_root(root):
        raise InvalidRow("no root")


def _check_word(n, word):
    check_many(n, FINITE_POINTS)
    check_word(n, word)


def _check_simple(n, simple):
    good = isinstance(simple, tuple) and len(simple) <= MAX_LETTERS
    if not good or not all([is_from_to(letter, 0, n - 1) for letter in simple]):
        raise InvalidWord("no simple word")


def _falling_letter(entries):
    """A letter whose root meets the entries below 0, None if there is none."""
    numbers = entries[1:]
    for letter in range(len(numbers) - 1):
        if numbers[letter] < numbers[letter + 1]:
            return letter
    return len(numbers) - 1 if entries[0] < sum(numbers[:3]) else None
