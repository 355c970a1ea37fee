import random
import unittest

from tests.kit import (FIVE, FOUR, GENERAL, GREATEST, LINES, PRIME, SEXTIC, are_plain, caught, climbed, is_just,
                       near_values, refuses, small_rows, too_many, wrong_values)
from tests.test_counts import is_free
from tests.test_exceptional import EIGHT
from tests.test_moves import random_word
from tests.test_steps import FEW
from timesthrough.base.rests import rank
from timesthrough.count.counts import count, has_curves
from timesthrough.count.parts import are_independent, clash, is_parts, met_below, parts, surplus
from timesthrough.count.steps import settled
from timesthrough.errors import InvalidRow, Refused
from timesthrough.plane.forms import conditions
from timesthrough.rows.exceptional import exceptional_rows
from timesthrough.rows.moves import moved
from timesthrough.rows.rows import (added, conditions_of, counting, cubic, multiplied, point_row, product, square,
                                    with_cubic)

WITHOUT = (1, 2) + (-1,) * 8
FAR_BELOW = (0, 10 ** 6, -10 ** 6, 0, 0, 0, 0, 0, 0, -1)


def judged(row, value):
    """[8.1], part by part, for a value of plain parts."""
    if not are_plain(value) or not isinstance(value, tuple) or len(value) != 2:
        return False
    free, pairs = value
    if not isinstance(free, tuple) or len(free) != len(row) or not all(isinstance(entry, int) for entry in free):
        return False
    if not isinstance(pairs, tuple) or not all(isinstance(pair, tuple) and len(pair) == 2 for pair in pairs):
        return False
    total = free
    for at, (other, times) in enumerate(pairs):
        if not isinstance(other, tuple) or len(other) != len(row) or not all(isinstance(part, int) for part in other):
            return False
        if not isinstance(times, int) or times < 1 or (square(other), with_cubic(other)) != (-1, 1):
            return False
        if product(free, other) != 0 or any(product(other, before) for before, _ in pairs[:at]):
            return False
        if at > 0 and not pairs[at - 1] < (other, times):
            return False
        total = added(total, multiplied(times, other))
    return total == row and is_free(free)


def some_rows(chance, many, n=None):
    found = []
    while len(found) < many:
        size = chance.randint(3, 9) if n is None else n
        found.append((chance.randint(0, 9),) + tuple(chance.randint(-2, 4) for _ in range(size)))
    return found


class Parts(unittest.TestCase):

    def test_told(self):
        self.assertEqual(parts((4, 2, 2, 2, 2, 2)), ((0, 0, 0, 0, 0, 0), (((2, 1, 1, 1, 1, 1), 2),)))
        self.assertEqual(parts(FOUR), ((0,) * 7, ((FIVE, 2),)))
        self.assertEqual(parts(LINES), ((0,) * 7, ((LINES, 1),)))
        self.assertEqual(parts((0, 0, 0, 0)), ((0, 0, 0, 0), ()))
        self.assertEqual(parts((3, -2, 2, 2)), ((2, 0, 1, 1), (((0, -1, 0, 0), 2), ((1, 0, 1, 1), 1))))
        self.assertEqual(parts(cubic(9)), (cubic(9), ()))
        self.assertEqual(parts(SEXTIC), ((0,) * 9, ((SEXTIC, 1),)))

    def test_parts(self):
        chance = random.Random(31)
        seen = {True: 0, False: 0}
        for row in some_rows(chance, 500):
            seen[has_curves(row)] += 1
            if not has_curves(row):
                self.assertEqual(caught(self, Refused, parts, row).reason, ("none",))
                continue
            found = parts(row)
            free, pairs = found
            self.assertIs(judged(row, found), True)
            self.assertIs(is_parts(row, found), True)
            self.assertEqual(count(row), counting(free))
            self.assertEqual(count(row), counting(row) + sum(times * (times - 1) // 2 for _, times in pairs))
            self.assertEqual([times for _, times in pairs], [-product(row, other) for other, _ in pairs])
            self.assertTrue(len(pairs) < len(row))
            if len(row) < 10:
                below = [other for other in exceptional_rows(len(row) - 1) if product(row, other) < 0]
                self.assertEqual([other for other, _ in pairs], below)
            self.assertEqual(met_below(row), tuple(other for other, _ in pairs))
        self.assertTrue(min(seen.values()) > 100)

    def test_multiples(self):
        chance = random.Random(32)
        for row in [row for row in some_rows(chance, 200) + [cubic(9), (0,) * 10] if has_curves(row)]:
            free, pairs = parts(row)
            s, q = square(free), with_cubic(free)
            for c in (1, 2, 3, 7):
                more = multiplied(c, row)
                self.assertEqual(parts(more), (multiplied(c, free), tuple((other, c * times) for other, times in pairs)))
                cubics = len(row) == 10 and q == 0
                self.assertEqual(count(more), 1 if cubics else (c * c * s + c * q) // 2 + 1)

    def test_words(self):
        chance = random.Random(33)
        for row in [row for row in some_rows(chance, 200) if has_curves(row)]:
            word = random_word(chance, len(row) - 1)
            free, pairs = parts(row)
            led = tuple(sorted((moved(other, word), times) for other, times in pairs))
            self.assertEqual(parts(moved(row, word)), (moved(free, word), led))

    def test_far(self):
        for start in ((7, 3, 2, 1, 0, 0, -1, -2, -2, -9), (4, 4, 0, 0, 0, 0, 0, -1, -3, -3), (0,) * 9 + (-1,),
                      (2, 1, 1, -1, -1, -1, -1, -1, -1, -1), (6, 5, 1) + (-2,) * 7, (1,) + (0,) * 9):
            for many in (0, 1, 60, 1899, 1900):
                row = climbed(settled(start), many)
                found = parts(row)
                self.assertIs(judged(row, found), True)
                self.assertIs(is_parts(row, found), True)
                self.assertEqual(met_below(row), tuple(other for other, _ in found[1]))
                self.assertIs(is_parts(row, (found[0], found[1][::-1] + ((row, 1),))), False)
            row = climbed(settled(start), 1901)
            for call in (parts, met_below):
                too_many(self, 2000, call, row)
            too_many(self, 2000, is_parts, row, parts(climbed(settled(start), 1900)))
            for call in (surplus, are_independent):
                if min(row) >= 0:
                    too_many(self, 2000, call, row)
        too_many(self, 2000, parts, climbed(WITHOUT, 1901))
        self.assertEqual(caught(self, Refused, parts, climbed(WITHOUT, 1900)).reason, ("none",))

    def test_nine_points(self):
        for times in (0, 1, 5, GREATEST // 3):
            row = multiplied(times, cubic(9))
            self.assertEqual((parts(row), met_below(row)), ((row, ()), ()))
            self.assertIs(is_parts(row, (row, ())), True)
        for row in (multiplied(-1, cubic(9)), (0, 1, -1) + (0,) * 7, (-1,) + (0,) * 9, WITHOUT):
            self.assertEqual(caught(self, Refused, parts, row).reason, ("none",))
            self.assertEqual(caught(self, Refused, met_below, row).reason, ("none",))
            self.assertIs(is_parts(row, (row, ())), False)

    def test_long(self):
        row = (GREATEST, GREATEST, GREATEST, 0)
        self.assertEqual(parts(row), ((0, 0, 0, 0), (((1, 1, 1, 0), GREATEST),)))
        self.assertEqual(parts((GREATEST,) + (-GREATEST,) * 8)[1], tuple((point_row(8, at), GREATEST) for at in range(8)))
        row = (6 * 10 ** 198, 3 * 10 ** 198) + (2 * 10 ** 198,) * 7
        self.assertEqual(parts(row), ((0,) * 9, ((SEXTIC, 10 ** 198),)))
        self.assertIs(is_parts(row, ((0,) * 9, ((SEXTIC, 10 ** 198),))), True)
        self.assertIs(is_parts(row, ((0,) * 9, ((SEXTIC, 10 ** 198 + 1),))), False)

    def test_is_parts(self):
        chance = random.Random(34)
        for row in [row for row in some_rows(chance, 60) if has_curves(row)] + [FOUR, cubic(9), (0, 0, 0, 0)]:
            found = parts(row)
            for value in near_values(found):
                told = is_just(value, found)
                self.assertIs(is_parts(row, value), told)
                self.assertIs(judged(row, value), told)
            for wrong in wrong_values() + [found[0], found[1], (), (found[0], list(found[1]))]:
                self.assertIs(is_parts(row, wrong), False)
        self.assertIs(is_parts((2, 1, 1, 1, 1, 1), ((0, 0, 0, 0, 0, 0), (((2, 1, 1, 1, 1, 1), True),))), False)
        self.assertIs(is_parts((1, 0, 0, 0), ((True, 0, 0, 0), ())), False)
        self.assertIs(is_parts((1, 0, 0, 0), ((1, 0, 0, False), ())), False)
        self.assertIs(is_parts((0, 1, 0, 0), ((0, 1, 0, 0), ())), False)

    def test_wrong(self):
        for call in (parts, met_below, surplus, are_independent):
            refuses(self, call, (FIVE,), 0, InvalidRow, FEW)
        refuses(self, is_parts, (FIVE, parts(FIVE)), 0, InvalidRow, FEW)
        refuses(self, clash, (FIVE,), 0, InvalidRow, EIGHT)
        # An integer below 0 comes ahead of a row that is too far.
        below = [(0, -1, 0, 0), (3, 0, 0, -1), (-1, 0, 0, 0), (-1, 1, 1, 1), FAR_BELOW]
        for call in (surplus, are_independent):
            refuses(self, call, (FIVE,), 0, InvalidRow, below)
            too_many(self, 2000, call, climbed((0,) * 9 + (-1,), 1905))
        too_many(self, 2000, parts, FAR_BELOW)


EXCEPTIONAL = {n: exceptional_rows(n) for n in range(3, 9)}


class Below(unittest.TestCase):

    def test_met_below_and_clash(self):
        chance = random.Random(35)
        seen = {True: 0, False: 0}
        for _ in range(400):
            n = chance.randint(3, 8)
            row = (chance.randint(-1, 6),) + tuple(chance.randint(-2, 4) for _ in range(n))
            below = tuple(other for other in EXCEPTIONAL[n] if product(row, other) < 0)
            self.assertEqual(met_below(row), below)
            pairs = [(one, other) for one in below for other in below if one < other and product(one, other) >= 1]
            found = clash(row)
            self.assertEqual(found, min(pairs) if pairs else None)
            self.assertFalse(found is not None and has_curves(row))
            seen[found is None] += 1
        self.assertTrue(min(seen.values()) > 50)

    def test_not_true(self):
        row = (0, 1, 0, 0)
        self.assertEqual((has_curves(row), clash(row)), (False, None))
        self.assertEqual(met_below(row), ((1, 1, 0, 1), (1, 1, 1, 0)))
        self.assertEqual(product(*met_below(row)), 0)

    def test_surplus(self):
        for n, degrees, numbers in ((3, range(0, 6), range(0, 6)), (5, range(0, 6), range(0, 4)), (8, range(0, 8), (0, 1, 2, 3))):
            for row in small_rows(n, degrees, numbers):
                more = surplus(row)
                self.assertEqual(more, count(row) - counting(row))
                self.assertTrue(more >= 0)
                self.assertIs(are_independent(row), more == 0)
                if has_curves(row):
                    self.assertIs(more == 0, all(product(row, other) > -2 for other in met_below(row)))
                else:
                    self.assertIs(more == 0, counting(row) == 0)
        self.assertEqual([surplus(FOUR), surplus(FIVE), surplus((0,) * 10), surplus(cubic(9))], [1, 0, 0, 0])
        self.assertEqual(surplus((3, 2, 0) + (1,) * 7), 0)
        self.assertEqual(surplus((GREATEST, GREATEST, GREATEST, 0)), GREATEST * (GREATEST - 1) // 2)

    def test_independent_by_told_points(self):
        chance = random.Random(36)
        seen = {True: 0, False: 0}
        for _ in range(150):
            n = chance.randint(3, 9)
            row = (chance.randint(0, 8),) + tuple(chance.choice((0, 1, 1, 2, 3)) for _ in range(n))
            there = rank(PRIME, conditions(PRIME, GENERAL[:n], row)) == conditions_of(row)
            self.assertIs(are_independent(row), there, row)
            seen[there] += 1
        self.assertTrue(min(seen.values()) > 20)


if __name__ == "__main__":
    unittest.main()
