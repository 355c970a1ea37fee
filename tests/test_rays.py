import random
import sys
import unittest
from fractions import Fraction
from math import gcd

from tests.kit import FIVE, FOUR, GREATEST, SEXTIC, caught, refuses, too_many, wrong_values
from timesthrough.count.counts import count, has_curves
from timesthrough.count.parts import parts
from timesthrough.errors import InvalidNumber, InvalidRow, Refused
from timesthrough.rows.exceptional import exceptional_rows
from timesthrough.rows.moves import moved
from timesthrough.rows.rows import added, cubic, less, line_row, multiplied, point_row, product, square, with_cubic
from timesthrough.share.rays import are_free_together, rays, stretch_counts, stretch_rows

TWO = ((10, 1, 2, 3, 1, 1, 1, 1, 1), (5, -4, 3, 1, -1, -1, 3, 1, 0))
NO_ROWS = wrong_values() + [(3, 1, 1), cubic(9), cubic(16), (3, 1, 1, True), [3, 1, 1, 1]]


def rows_with_curves(chance, n, many):
    found = []
    while len(found) < many:
        row = (chance.randint(0, 8),) + tuple(chance.randint(-2, 4) for _ in range(n))
        if has_curves(row):
            found.append(row)
    return found


def by_signs(one, other):
    """The rays, as [16.4] tells them, by fractions."""
    found = {}
    for row in exceptional_rows(len(one) - 1):
        left, right = product(one, row), product(other, row)
        if left * right < 0:
            a, b = abs(right), abs(left)
            found[Fraction(b, a)] = (a // gcd(a, b), b // gcd(a, b))
    return ((1, 0),) + tuple(found[key] for key in sorted(found)) + ((0, 1),)


def together(one, other, a, b):
    return added(multiplied(a, one), multiplied(b, other))


def inside(one, other, index):
    """The exceptional rows that a row inside a stretch meets below 0, looked for among all of them."""
    (a, b), (c, d) = by_signs(one, other)[index:index + 2]
    low, high = a + c, b + d
    return tuple(row for row in exceptional_rows(len(one) - 1)
                 if low * product(one, row) + high * product(other, row) < 0)


def sum_of_exceptional(chance, n, most):
    found = (0,) * (n + 1)
    for _ in range(chance.randint(1, 9)):
        found = added(found, multiplied(chance.randint(1, most), chance.choice(exceptional_rows(n))))
    return found


def whole_sum(chance, n):
    """A sum of as many exceptional rows as points, of which no two meet, each some times."""
    turns = tuple(("turn",) + tuple(sorted(chance.sample(range(n), 3))) for _ in range(chance.randint(0, 40)))
    return moved((0,) + tuple(-chance.randint(1, 9) for _ in range(n)), turns)


def calls_done(call, *args):
    """How many functions of the package run in a call."""
    done = []
    sys.setprofile(lambda frame, event, _: done.append(frame) if event == "call" else None)
    try:
        call(*args)
    except InvalidNumber:
        pass
    finally:
        sys.setprofile(None)
    return len(done)


class Rays(unittest.TestCase):

    def test_told(self):
        self.assertEqual(rays(*TWO), ((1, 0), (4, 1), (1, 1), (1, 7), (0, 1)))
        self.assertEqual(rays(line_row(3), point_row(3, 0)), ((1, 0), (0, 1)))
        self.assertEqual(rays((1, 1, 0, 0), (0, -1, 0, 0)), ((1, 0), (1, 1), (0, 1)))
        self.assertEqual(rays((0, 0, 0, 0), (0, 0, 0, 0)), ((1, 0), (0, 1)))

    def test_by_signs(self):
        chance = random.Random(170)
        many = 0
        for at in range(150):
            one, other = rows_with_curves(chance, 3 + at % 6, 2)
            found = rays(one, other)
            self.assertEqual(found, by_signs(one, other))
            self.assertEqual((found[0], found[-1]), ((1, 0), (0, 1)))
            self.assertTrue(all(gcd(a, b) == 1 and min(a, b) >= 0 for a, b in found))
            many += len(found) > 2
        self.assertTrue(many > 50)

    def test_stretches(self):
        chance = random.Random(171)
        many = 0
        for at in range(60):
            n = 3 + at % 6
            one, other = rows_with_curves(chance, n, 2)
            found = rays(one, other)
            many += len(found) > 2
            for index in range(len(found) - 1):
                self.check_stretch(one, other, found, index)
        self.assertTrue(many > 20)

    def check_stretch(self, one, other, found, index):
        taken = stretch_rows(one, other, index)
        big, mixed, last, first_times, last_times = stretch_counts(one, other, index)
        low, high = found[index], found[index + 1]
        for c, d in ((1, 1), (1, 0), (0, 1), (3, 1), (2, 7)):
            a, b = c * low[0] + d * high[0], c * low[1] + d * high[1]
            row = together(one, other, a, b)
            free, pairs = parts(row)
            if c and d:
                self.assertEqual(tuple(pair[0] for pair in pairs), taken)
            self.assertTrue(set(pair[0] for pair in pairs) <= set(taken))
            told = big * a * a + mixed * a * b + last * b * b + first_times * a + last_times * b
            self.assertEqual(count(row), told // 2 + 1)
            self.assertEqual(told % 2, 0)
            f, g = one, other
            for exceptional in taken:
                f = added(f, multiplied(product(one, exceptional), exceptional))
                g = added(g, multiplied(product(other, exceptional), exceptional))
            self.assertEqual(together(f, g, a, b), free)
            self.assertEqual((big, mixed, last), (square(f), 2 * product(f, g), square(g)))
            self.assertEqual((first_times, last_times), (with_cubic(f), with_cubic(g)))

    def test_by_all_exceptional_rows(self):
        chance = random.Random(173)
        seen = {0: 0, 1: 0, 2: 0}
        for at in range(240):
            n = 3 + at % 6
            kind = at // 6 % 4
            if kind == 0:
                one, other = rows_with_curves(chance, n, 2)
            elif kind == 1:
                one, other = whole_sum(chance, n), whole_sum(chance, n)
            else:
                one, other = [sum_of_exceptional(chance, n, (5, 10 ** 198)[kind - 2]) for _ in range(2)]
            told = by_signs(one, other)
            self.assertEqual(rays(one, other), told)
            self.assertIs(are_free_together(one, other), len(told) == 2)
            for index in range(len(told) - 1):
                taken = inside(one, other, index)
                self.assertEqual(stretch_rows(one, other, index), taken)
                seen[min(len(taken), 2)] += 1
            for index in (-1, len(told) - 1, None, True):
                for call in (stretch_rows, stretch_counts):
                    self.assertIs(caught(self, InvalidNumber, call, one, other, index).given, index)
        self.assertTrue(min(seen.values()) > 30)

    def test_bounds_of_met_rows(self):
        # Both rows meet as many exceptional rows below 0 as there are points, and no row twice.
        one, other = (0,) + (-1,) * 8, (0,) * 9
        for index in range(8):
            far = less(multiplied(2, cubic(8)), point_row(8, index))
            other = added(other, multiplied(index + 1, far))
        for first, second in ((one, other), (other, one)):
            found = rays(first, second)
            self.assertEqual(found, by_signs(first, second))
            for index in range(len(found) - 1):
                self.check_stretch(first, second, found, index)
        alike = multiplied(3, one)
        self.assertEqual(rays(one, alike), ((1, 0), (0, 1)))
        self.assertEqual(stretch_rows(one, alike, 0), tuple(point_row(8, index) for index in range(8)))
        self.assertEqual(stretch_counts(one, alike, 0), (0, 0, 0, 0, 0))
        self.assertIs(are_free_together(one, alike), True)

    def test_without_a_look_at_all_exceptional_rows(self):
        # To take the products of two rows with all 240 exceptional rows makes more than 480 calls.
        two = ((3, 1, 1, 1, 1, 1, 1, 1, 1), (2, 1, 1, 1, 1, -1, 0, 0, 0))
        self.assertEqual(rays(*two), ((1, 0), (1, 1), (0, 1)))
        self.assertEqual([stretch_rows(*two, index) for index in (0, 1)], [(), (point_row(8, 4),)])
        self.assertEqual([stretch_counts(*two, index) for index in (0, 1)], [(1, 6, -1, 1, 3), (2, 4, 0, 2, 2)])
        self.assertIs(are_free_together(*two), False)
        for first, second in (two, two[::-1], TWO):
            for call, more in ((rays, ()), (are_free_together, ()), (stretch_rows, (0,)), (stretch_counts, (1,)),
                               (stretch_rows, (99,)), (stretch_counts, (99,))):
                self.assertTrue(calls_done(call, first, second, *more) < 400)

    def test_free_together(self):
        chance = random.Random(172)
        seen = {True: 0, False: 0}
        for at in range(400):
            one, other = rows_with_curves(chance, 3 + at % 3, 2)
            told = parts(added(one, other))[0] == added(parts(one)[0], parts(other)[0])
            self.assertIs(are_free_together(one, other), told)
            self.assertIs(len(rays(one, other)) == 2, told)
            seen[told] += 1
        self.assertTrue(min(seen.values()) > 30)
        # The free part of a sum need not be the sum of the free parts.
        self.assertIs(are_free_together((1, 1, 0, 0), (0, -1, 0, 0)), False)
        self.assertIs(are_free_together(SEXTIC, SEXTIC), True)
        self.assertIs(are_free_together(FIVE, FOUR), True)

    def test_long(self):
        one = (10 ** 199, 10 ** 199 - 1, 0, 0)
        other = (10 ** 199 + 7, -10 ** 199, 5 - 10 ** 199, 10 ** 199 + 2)
        self.assertEqual(rays(one, other), by_signs(one, other))
        for index in range(len(rays(one, other)) - 1):
            too_many(self, 200, stretch_counts, one, other, index)
            self.assertTrue(len(stretch_rows(one, other, index)) > 0)
        far = ((GREATEST, GREATEST, 0, 0), (GREATEST - 1, -GREATEST, -GREATEST, 0))
        self.assertTrue(max(max(ray) for ray in by_signs(*far)) >= 1)
        longer = [(GREATEST, 0, 0, 0, 0), (3 * 10 ** 199, 10 ** 199, 2 * 10 ** 199 + 1, -GREATEST, -GREATEST)]
        self.assertEqual(stretch_counts((10 ** 99, 0, 0, 0), (0, 0, 0, 0), 0), (10 ** 198, 0, 0, 3 * 10 ** 99, 0))
        too_many(self, 200, stretch_counts, (10 ** 100, 0, 0, 0), (0, 0, 0, 0), 0)
        told = by_signs(*longer)
        if max(max(ray) for ray in told) > GREATEST:
            too_many(self, 200, rays, *longer)
        else:
            self.assertEqual(rays(*longer), told)

    def test_rays_of_201_digits(self):
        # A line through two points meets the one row 2 * 10**200 - 2 times, the other one -1 times.
        one = (0, -GREATEST, -GREATEST, 0)
        other = (1, 1, 1, 0)
        self.assertEqual(max(max(ray) for ray in by_signs(one, other)), 2 * GREATEST)
        too_many(self, 200, rays, one, other)
        too_many(self, 200, rays, other, one)
        self.assertEqual(stretch_rows(other, one, 0), ((1, 1, 1, 0),))
        self.assertIs(are_free_together(one, other), False)

    def test_wrong(self):
        for call in (rays, are_free_together):
            refuses(self, call, (FIVE, FOUR), 0, InvalidRow, NO_ROWS)
            refuses(self, call, (FIVE, FOUR), 1, InvalidRow, NO_ROWS + [cubic(5), cubic(7)])
        for call in (stretch_rows, stretch_counts):
            refuses(self, call, (FIVE, FOUR, 0), 0, InvalidRow, NO_ROWS)
            refuses(self, call, (FIVE, FOUR, 0), 1, InvalidRow, NO_ROWS + [cubic(5), cubic(7)])
            refuses(self, call, TWO + (0,), 2, InvalidNumber, wrong_values() + [-1, 4, 5, GREATEST, "0", (0,)])
            call(*TWO, 3)
        none = (0, 1, 0, 0)
        for call, more in ((rays, ()), (are_free_together, ()), (stretch_rows, (9,)), (stretch_counts, (None,))):
            self.assertEqual(caught(self, Refused, call, none, none, *more).reason, ("none", 0))
            self.assertEqual(caught(self, Refused, call, none, cubic(3), *more).reason, ("none", 0))
            self.assertEqual(caught(self, Refused, call, cubic(3), none, *more).reason, ("none", 1))
            caught(self, InvalidRow, call, none, (0, 1, 0), *more)


if __name__ == "__main__":
    unittest.main()
