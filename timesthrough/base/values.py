"""Integers as they may be passed, and choices of things."""

# The least integer of more than 200 digits.
_TOO_LONG = (10 ** 50) ** 4

# A name has at most so many letters and digits.
_MOST_LETTERS = 8


def is_short(number):
    """Whether an integer has at most 200 digits."""
    return -_TOO_LONG < number < _TOO_LONG


def are_short(numbers):
    """Whether all integers of a sequence have at most 200 digits."""
    return all([is_short(number) for number in numbers])


def is_integer(value):
    """Whether the value is an integer that may be passed."""
    return isinstance(value, int) and not isinstance(value, bool) and is_short(value)


def is_from_to(value, least, most):
    """Whether the value is an integer within these bounds, both included."""
    return is_integer(value) and least <= value <= most


def choices(things, size):
    """All tuples of so many of the things, each in the order of the things."""
    if size == 0:
        return [()]
    found = []
    for at in range(len(things)):
        for others in choices(things[at + 1:], size - 1):
            found.append((things[at],) + others)
    return found


def orders(things):
    """All different tuples that have just these integers, in any order."""
    if len(things) == 0:
        return [()]
    found = []
    for first in sorted(set(things)):
        at = things.index(first)
        for others in orders(things[:at] + things[at + 1:]):
            found.append((first,) + others)
    return found


def is_same(value, told):
    """Whether the value is just this integer, or this nested tuple of integers; True is not 1."""
    if not isinstance(told, tuple):
        return is_integer(value) and value == told
    if not isinstance(value, tuple) or len(value) != len(told):
        return False
    return all([is_same(part, other) for part, other in zip(value, told)])


def greatest_divisor(numbers):
    """The greatest integer that divides all of the integers, 0 if they are all 0."""
    found = 0
    for number in numbers:
        while number != 0:
            found, number = number, found % number
    return abs(found)


def is_name(value):
    """Whether the value is a string of one to eight small letters and digits, the first one a letter."""
    if not isinstance(value, str) or not 1 <= len(value) <= _MOST_LETTERS:
        return False
    return "a" <= value[0] <= "z" and all(["a" <= sign <= "z" or "0" <= sign <= "9" for sign in value])
