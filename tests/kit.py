"""What several tests use: the document's values, wrong values, and told points."""

from timesthrough.errors import TooMany
from timesthrough.plane.forms import Form
from timesthrough.rows.moves import do_move

FIVE = (2, 1, 1, 1, 1, 1, 0)
FOUR = (4, 2, 2, 2, 2, 2, 0)
LINES = (1, 1, 1, 0, 0, 0, 0)
SEXTIC = (6, 3, 2, 2, 2, 2, 2, 2, 2)
CIRCLE = ((0, 0, 1), (1, 1, 1), (2, 4, 1), (3, 9, 1), (4, 16, 1), (5, 25, 1))

# Nine points over this prime at which small rows have their counts of general points.
PRIME = 65521
GENERAL = ((1, 0, 0), (0, 1, 0), (0, 0, 1), (1, 1, 1), (7243, 51911, 1), (60317, 11213, 1),
           (30011, 42043, 1), (4021, 9187, 1), (22111, 64901, 1))

GREATEST = 10 ** 200 - 1


def deep(kind, value, levels=8):
    """The value, nested in tuples, lists or dicts."""
    for _ in range(levels):
        value = {"tuple": (value,), "list": [value], "dict": {1: value}}[kind]
    return value


def wrong_values():
    """Values of every kind that [0.4] lists, none of which is valid where it is used."""
    return [
        True, False, None, "", "a", "2 1 1 1", "swap", "a" * 20000, "\t\n", [], [1], {}, {1: 2}, {"a": None},
        10 ** 200, -10 ** 200, 10 ** 219 + 3, [3, 1, 1, 1], [(0, 0, 1), (0, 1, 0), (1, 0, 0)],
        (None,), ("a", "b"), ((),), ([],), ({},), (True, 1, 1, 1), (1, 1, 1, False), (3, 1, 1, None),
        (3, 1, 1, 10 ** 200), (3, 1, 1, "1"), (3, 1, 1, [1]), (3, 1, 1, (1,)), {(3, 1): 1},
        deep("tuple", 1), deep("list", 1), deep("dict", 1), deep("tuple", []), deep("tuple", None),
        Form(5, 0, {}), Form(7, 1, {(1, 0, 0): 3}), (Form(5, 0, {}),),
    ]


def caught(case, error, call, *args):
    """The error that the call raises, of just this class."""
    with case.assertRaises(error) as raised:
        call(*args)
    case.assertIs(raised.exception.__class__, error)
    return raised.exception


def refuses(case, call, args, at, error, wrongs):
    """The argument at an index is refused with an error; arguments behind it are wrong, too."""
    for wrong in wrongs:
        for later in (list(args[at + 1:]), [None] * (len(args) - at - 1), [True] * (len(args) - at - 1)):
            with case.subTest(call=call.__name__, at=at, wrong=repr(wrong)[:60]):
                raised = caught(case, error, call, *args[:at], wrong, *later)
                if hasattr(raised, "given"):
                    case.assertIs(raised.given, wrong)


def too_many(case, limit, call, *args):
    """The call raises TooMany with this limit."""
    case.assertEqual(caught(case, TooMany, call, *args).limit, limit)


def climbed(row, many):
    """The row after turns at three points with least numbers: a walk back has as many."""
    entries = list(row)
    for _ in range(many):
        least = sorted(range(1, len(entries)), key=lambda at: (entries[at], at))[:3]
        do_move(entries, ("turn",) + tuple(sorted([at - 1 for at in least])))
    return tuple(entries)


def small_rows(n, degrees, numbers):
    """All rows of n points with such degrees and falling numbers of such a kind."""
    tuples = [()]
    for _ in range(n):
        tuples = [some + (number,) for some in tuples for number in numbers if not some or number <= some[-1]]
    return [(degree,) + some for degree in degrees for some in tuples]


def near_values(value):
    """Values that are nearly the given one: one part changed, left out, doubled or exchanged with the next one."""
    if isinstance(value, int):
        return [value + 1, value - 1, -value, value + 10 ** 200, None, str(value), (value,), [value]] + (
            [bool(value)] if value in (0, 1) else [])
    if isinstance(value, str):
        return [value + "s", value[:-1], value.upper(), (value,), None, 1]
    found = [list(value), value + (None,), value + (0,), (value,), None, {at: part for at, part in enumerate(value)}]
    for at, part in enumerate(value):
        found.extend(value[:at] + (near,) + value[at + 1:] for near in near_values(part))
        found.extend([value[:at] + value[at + 1:], value[:at + 1] + value[at:]])
        if at + 1 < len(value):
            found.append(value[:at] + (value[at + 1], part) + value[at + 2:])
    return found


def are_plain(value):
    """Whether the value consists of tuples, strings, and integers of at most 200 digits alone."""
    if isinstance(value, tuple):
        return all(are_plain(part) for part in value)
    return isinstance(value, str) or isinstance(value, int) and not isinstance(value, bool) and abs(value) <= GREATEST


def is_just(value, told):
    """Whether both are equal, and alike in the kinds of all their parts."""
    return repr(value) == repr(told)
