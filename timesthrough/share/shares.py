"""Shares: from which degree on the multiples of weights have curves, or are free."""

from timesthrough.base.values import greatest_divisor, is_from_to, is_integer, is_same
from timesthrough.count.counts import bar
from timesthrough.count.free import is_free, met
from timesthrough.count.parts import parts
from timesthrough.count.steps import settling
from timesthrough.errors import InvalidNumber, InvalidWeights
from timesthrough.rows.exceptional import is_exceptional
from timesthrough.rows.moves import moved, undone
from timesthrough.rows.rows import FEW_POINTS, FINITE_POINTS, LEAST_POINTS, cubic, is_row, point_row, product_of

_MOST_WEIGHT = 10 ** 6
_MOST_TIMES = 10 ** 50


def least_share(weights):
    """The least share of which some multiple has curves."""
    _check_weights(weights)
    return _share_of(_least_row(weights)[0], weights)


def free_share(weights):
    """The least share of which some multiple is free."""
    _check_weights(weights)
    return _share_of(_free_row(weights)[0], weights)


def least_degree(weights, m):
    """The least degree for which m times the weights have curves."""
    share = least_share(weights)
    return _degree(share, m)


def least_free_degree(weights, m):
    """The least degree for which m times the weights are free."""
    share = free_share(weights)
    return _degree(share, m)


def share_paper(weights):
    """Exceptional rows with shares, whose sum the least share is, and a free row that meets it 0 times."""
    _check_weights(weights)
    row, free = _least_row(weights)
    bottom = _scale(row, weights)
    times = _times(row)
    terms = [(other, _lowest(times[other], bottom)) for other in times]
    return (tuple(sorted(terms)), free)


def is_share_paper(weights, value):
    """Whether the value is such a pair."""
    _check_weights(weights)
    if not isinstance(value, tuple) or len(value) != 2:
        return False
    row, _ = _least_row(weights)
    terms, free = value
    if not is_row(free) or len(free) != len(row) or product_of(free, row) != 0:
        return False
    if not any([entry != 0 for entry in free]) or not is_free(free):
        return False
    return _are_terms(len(weights), terms) and _is_sum(terms, row, _scale(row, weights))


def free_bar(weights):
    """An exceptional row, or the cubic of nine points, that meets the free share 0 times."""
    _check_weights(weights)
    return _free_row(weights)[1]


def is_free_bar(weights, value):
    """Whether the value is such a row."""
    _check_weights(weights)
    if not _is_part(len(weights), value):
        return False
    return value[0] > 0 and product_of(value, _free_row(weights)[0]) == 0


def _check_weights(weights):
    if not _are_weights(weights):
        raise InvalidWeights("no weights")


def _are_weights(value):
    if not isinstance(value, tuple) or not LEAST_POINTS <= len(value) <= FEW_POINTS:
        return False
    if not all([is_from_to(weight, 0, _MOST_WEIGHT) for weight in value]) or max(value) == 0:
        return False
    return len(value) <= FINITE_POINTS or min(value) == max(value)


def _least_row(weights):
    """The least multiple of the least share that is found, and a free row that meets it 0 times."""
    if len(weights) == FEW_POINTS:
        return _cubic_row(weights)
    # Each bar tells a greater share, below which there are no curves: so this comes to an end.
    found = _pencil_at(weights)
    free = found
    while found is not None:
        free = found
        row = _row_meeting(weights, free)
        found = bar(row)
    return row, free


def _free_row(weights):
    """The same for the free share, and an exceptional row that meets it 0 times."""
    if len(weights) == FEW_POINTS:
        return _cubic_row(weights)
    found = _line_at(weights)
    other = found
    while found is not None:
        other = found
        row = _row_meeting(weights, other)
        found = met(row)
    return row, other


def _cubic_row(weights):
    return (3 * weights[0],) + weights, cubic(FEW_POINTS)


def _pencil_at(weights):
    """The pencil of lines through a point with the greatest weight."""
    numbers = [0] * len(weights)
    numbers[weights.index(max(weights))] = 1
    return (1,) + tuple(numbers)


def _line_at(weights):
    """The row of the line through two points with the greatest weights."""
    ranked = sorted([(-weight, at) for at, weight in enumerate(weights)])
    places = [at for _, at in ranked[:2]]
    return (1,) + tuple([1 if at in places else 0 for at in range(len(weights))])


def _row_meeting(weights, other):
    """The row of multiples of the weights whose product with the other row is 0."""
    top = sum([number * weight for number, weight in zip(other[1:], weights)])
    common = greatest_divisor((top, other[0]))
    return (top // common,) + tuple([other[0] // common * weight for weight in weights])


def _scale(row, weights):
    """By which integer the weights are multiplied in the row."""
    at = weights.index(max(weights))
    return row[at + 1] // weights[at]


def _share_of(row, weights):
    return _lowest(row[0], _scale(row, weights))


def _lowest(top, bottom):
    common = greatest_divisor((top, bottom))
    return (top // common, bottom // common)


def _degree(share, m):
    if not is_from_to(m, 1, _MOST_TIMES):
        raise InvalidNumber(m)
    top, bottom = share
    return -(-m * top // bottom)


def _times(row):
    """Exceptional rows, or the cubic of nine points, so many times each, whose sum is the row of the least share."""
    many = len(row) - 1
    if many == FEW_POINTS:
        return {cubic(many): row[1]}
    free, pairs = parts(row)
    times = {other: number for other, number in pairs}
    # The free part meets a free row 0 times, so it is 0, or a pencil so many times: such
    # a one is what the word makes of two exceptional rows.
    word = settling(free)
    number = moved(free, word)[0]
    if number > 0:
        zeros = (0,) * (many - 2)
        for half in ((1, 1, 1) + zeros, point_row(many, 1)):
            other = moved(half, undone(word))
            times[other] = times.get(other, 0) + number
    return times


def _is_part(many, value):
    """Whether the value is an exceptional row of so many points, the cubic for nine."""
    if many == FEW_POINTS:
        return is_same(value, cubic(many))
    return is_row(value) and len(value) == many + 1 and is_exceptional(value)


def _are_terms(many, value):
    """Whether the value is pairs of rows that ascend and shares above 0 in lowest terms."""
    if not isinstance(value, tuple) or not all([_is_term(many, term) for term in value]):
        return False
    return all([value[at][0] < value[at + 1][0] for at in range(len(value) - 1)])


def _is_term(many, value):
    if not isinstance(value, tuple) or len(value) != 2 or not _is_part(many, value[0]):
        return False
    share = value[1]
    if not isinstance(share, tuple) or len(share) != 2 or not all([is_integer(number) for number in share]):
        return False
    return min(share) >= 1 and greatest_divisor(share) == 1


def _is_sum(terms, row, scale):
    """Whether the rows, each times its share and all times the scale, have the row as sum."""
    common = scale
    for _, (_, bottom) in terms:
        common = common // greatest_divisor((common, bottom)) * bottom
    total = [0] * len(row)
    for other, (top, bottom) in terms:
        factor = common // bottom * top
        total = [entry + factor * number for entry, number in zip(total, other)]
    return total == [common // scale * entry for entry in row]
