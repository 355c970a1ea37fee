import random
import unittest

from tests.kit import (CIRCLE, FIVE, FOUR, GENERAL, GREATEST, LINES, PRIME, SEXTIC, caught, climbed, refuses, small_rows,
                       too_many, wrong_values)
from tests.test_moves import random_word
from tests.test_points import NO_TUPLES, many_points
from tests.test_rests import NO_PRIMES
from tests.test_rows import random_row
from tests.test_steps import FEW, step_by_hand
from timesthrough.count.counts import bar, count, has_curves, is_bar, shows_no_more
from timesthrough.count.steps import is_settled, is_standard, settled, settling, steps
from timesthrough.errors import InvalidNumber, InvalidPoints, InvalidRow
from timesthrough.plane.forms import count_at
from timesthrough.rows.exceptional import exceptional_rows, meetings
from timesthrough.rows.moves import moved, undone
from timesthrough.rows.rows import (added, conditions_of, counting, cubic, is_row, less, line_row, multiplied, point_row,
                                    product, with_cubic)

WITHOUT = (1, 2) + (-1,) * 8


def is_free(row):
    """[0.15] for up to eight points, [6.4] and the settled row for nine."""
    if len(row) < 10:
        return has_curves(row) and min(meetings(row)) >= 0
    if with_cubic(row) <= 0:
        return with_cubic(row) == 0 and row[1] >= 0 and row == multiplied(row[1], cubic(9))
    return is_standard(settled(row))


class Counts(unittest.TestCase):

    def test_printed(self):
        rows = (FOUR, (2, 2, 2, 0), (1, 2, 0, 0), (3, 3, 3, 3, 3), (6, 2, 2, 2, 2, 2, 2, 2, 2, 1))
        self.assertEqual([count(row) for row in rows], [1, 1, 0, 0, 3])

    def test_told_counts(self):
        for row, told in ((FIVE, 1), (LINES, 1), (SEXTIC, 1), ((0, 0, 0, 0), 1), ((-1, 0, 0, 0), 0), ((1, 0, 0, 0), 3),
                          ((0, -4, 0, 0), 1), ((0, 1, 0, 0), 0), ((0, 1, -1, 0), 0), ((4, 0, 0, 0), 15),
                          ((50, 51, 0, 0), 0), ((2, 1, 1, 1, 1, 1, 1), 0), ((3, 2, 2, 0), 4), ((-3, -9, -9, -9), 0)):
            self.assertEqual((count(row), has_curves(row)), (told, told > 0), row)

    def test_by_told_points(self):
        chance = random.Random(21)
        for n, degrees, numbers, share in ((3, range(-3, 7), range(-2, 5), 1), (4, range(-1, 7), range(-1, 5), 0.5),
                                           (5, range(0, 6), range(-1, 4), 0.5), (6, range(0, 6), range(-1, 4), 0.3),
                                           (7, range(0, 7), range(-1, 4), 0.1), (8, range(0, 8), range(-1, 4), 0.05),
                                           (9, range(0, 8), range(-1, 4), 0.04)):
            for row in small_rows(n, degrees, numbers):
                if chance.random() < share:
                    shuffled = row[:1] + tuple(chance.sample(row[1:], n))
                    found = count(shuffled)
                    self.assertEqual(count_at(PRIME, GENERAL[:n], shuffled), found, shuffled)
                    self.assertIs(has_curves(shuffled), found > 0)

    def test_greater_rows_by_told_points(self):
        for row in ((8,) + (3,) * 7, (9, 4) + (3,) * 7, (12, 5, 5) + (4,) * 6, (9,) + (3,) * 9, (10, 4) + (3,) * 8,
                    (12,) + (4,) * 9, (13, 5, 5, 5) + (4,) * 6, (10, 7, 4, 4, 3, 2, 1), (16, 8, 8, 8, 3, 1, 1)):
            self.assertEqual(count_at(PRIME, GENERAL[:len(row) - 1], row), count(row), row)

    def test_counting_and_surplus(self):
        chance = random.Random(22)
        for _ in range(300):
            n = chance.randint(3, 8)
            row = (chance.randint(0, 12),) + tuple(chance.randint(-3, 5) for _ in range(n))
            if has_curves(row):
                below = [-met for met in meetings(row) if met < 0]
                self.assertEqual(count(row), counting(row) + sum(t * (t - 1) // 2 for t in below))
                self.assertTrue(len(below) <= n)
            self.assertTrue(count(row) >= counting(row))
            self.assertEqual(count(moved(row, random_word(chance, n))), count(row))
            self.assertIs(has_curves(row), has_curves(multiplied(chance.randint(2, 9), row)))

    def test_standard_rows(self):
        chance = random.Random(23)
        many = 0
        for _ in range(300):
            n = chance.randint(3, 9)
            row = (chance.randint(0, 12),) + tuple(chance.randint(0, 4) for _ in range(n))
            if is_standard(row):
                many += 1
                self.assertEqual(count(row), counting(row))
        self.assertTrue(many > 50)

    def test_settled_rows_meet_plain_rows(self):
        seen = {True: 0, False: 0}
        for n, numbers in ((3, range(-4, 5)), (4, range(-3, 4)), (6, range(-2, 3)), (9, (-3, -1, 0, 1, 2))):
            plain = [start + (0,) * (n + 1 - len(start)) for start in
                     [(1,), (1, 1), (2, 1, 1)] + [(3,) + (1,) * many for many in range(3, n + 1)]]
            self.assertEqual(len(plain), n + 1)
            for row in small_rows(n, range(-3, 6), numbers):
                if is_settled(row) and (n < 9 or with_cubic(row) > 0):
                    low = [other for other in plain if product(row, other) < 0]
                    self.assertIs(has_curves(row), not low)
                    self.assertTrue(all(is_standard(other) and is_bar(row, other) for other in low))
                    seen[not low] += 1
        self.assertTrue(min(seen.values()) > 200)

    def test_sums(self):
        chance = random.Random(24)
        many = 0
        for _ in range(600):
            n = chance.randint(3, 9)
            one, other = ((chance.randint(0, 6),) + tuple(chance.randint(-1, 2) for _ in range(n)) for _ in range(2))
            if has_curves(one) and has_curves(other):
                many += 1
                self.assertTrue(count(added(one, other)) >= count(one) + count(other) - 1)
                self.assertIsNone(bar(added(one, other)))
        self.assertTrue(many > 100)

    def test_nine_points(self):
        for times in (0, 1, 2, 7, GREATEST // 3):
            self.assertEqual((count(multiplied(times, cubic(9))), bar(multiplied(times, cubic(9)))), (1, None))
        for row in (multiplied(-1, cubic(9)), (0, 1, -1, 0, 0, 0, 0, 0, 0, 0), (3, 2, 0) + (1,) * 7,
                    (3, 1, 1, 1, 1, 1, 1, 1, 1, 2), (-1,) + (0,) * 9, (GREATEST,) + (GREATEST,) * 9):
            self.assertEqual((count(row), has_curves(row), bar(row)), (0, False, cubic(9)))
            self.assertIs(is_bar(row, cubic(9)), True)
        self.assertEqual(count((0, -1) + (0,) * 8), 1)

    def test_far(self):
        for start in (point_row(9, 8), line_row(9), settled((4, 2, 2, 1, 1, 1, 1, 0, 0, -3)), WITHOUT):
            near, far = climbed(start, 1900), climbed(start, 1901)
            self.assertEqual(count(near), count(start))
            self.assertIs(has_curves(near), has_curves(start))
            found = bar(near)
            self.assertIs(found is None, has_curves(start))
            if found is not None:
                self.assertIs(is_bar(near, found), True)
            for call in (count, has_curves, bar):
                too_many(self, 2000, call, far)

    def test_great(self):
        factor = 10 ** 198
        self.assertEqual([count(multiplied(factor, row)) for row in (FOUR, FIVE, SEXTIC, cubic(9))], [1, 1, 1, 1])
        self.assertEqual(count((GREATEST, 0, 0, 0)), (GREATEST + 1) * (GREATEST + 2) // 2)
        self.assertEqual(count((GREATEST,) + (1,) * 9), (GREATEST + 1) * (GREATEST + 2) // 2 - 9)
        self.assertEqual(count((GREATEST, GREATEST, GREATEST, 0)), 1)
        self.assertEqual(count((GREATEST - 1, GREATEST, 0, 0)), 0)
        found = bar((GREATEST - 1, GREATEST, 0, 0))
        self.assertTrue(is_row(found) and product(found, (GREATEST - 1, GREATEST, 0, 0)) < 0)
        row = (12 * factor - 1,) + (5 * factor,) * 6
        self.assertEqual((count(row), is_bar(row, bar(row))), (0, True))
        self.assertEqual(count((12 * factor,) + (5 * factor,) * 6), 1)

    def test_not_true(self):
        self.assertEqual((count(FOUR), counting(FOUR)), (1, 0))
        self.assertEqual((has_curves((1, 1, 1, 0)), has_curves((1, 2, 0, 0))), (True, False))
        self.assertEqual((counting((0, 3, -3, 0)), count((0, 3, -3, 0)), count((2, 2, 2, 0))), (-8, 0, 1))
        free = [row for row in small_rows(9, range(1, 7), (0, 1, 2, 3)) if with_cubic(row) >= 0 and product(row, row) >= 0]
        self.assertTrue(any(not is_free(row) for row in free))

    def test_wrong(self):
        for call in (count, has_curves, bar):
            refuses(self, call, (FIVE,), 0, InvalidRow, FEW)
        refuses(self, is_bar, (FIVE, FIVE), 0, InvalidRow, FEW)


class Bars(unittest.TestCase):

    def test_bars(self):
        chance = random.Random(25)
        seen = {True: 0, False: 0}
        for _ in range(500):
            n = chance.randint(3, 9)
            row = random_row(chance, n)
            row = (abs(row[0]) + chance.randint(0, 8),) + row[1:]
            found = bar(row)
            seen[found is None] += 1
            self.assertIs(found is None, has_curves(row))
            if found is not None:
                self.assertIs(is_bar(row, found), True)
                if n == 9 and with_cubic(row) <= 0:
                    self.assertEqual(found, cubic(9))
                else:
                    self.assertTrue(product(row, found) < 0 and is_free(found))
                self.assertIs(is_bar(multiplied(3, row), found), True)
        self.assertTrue(min(seen.values()) > 100)

    def test_is_bar(self):
        chance = random.Random(26)
        seen = {True: 0, False: 0}
        for _ in range(3000):
            n = chance.choice((3, 4, 5, 6, 7, 8, 9, 9))
            row = (chance.randint(-2, 4),) + tuple(chance.randint(-1, 2) for _ in range(n))
            value = (chance.randint(0, 3),) + tuple(chance.randint(-1, 1) for _ in range(n))
            if chance.random() < 0.5:
                value = chance.choice((cubic(n), line_row(n), multiplied(2, cubic(n)), (1, 1) + (0,) * (n - 1)))
                value = moved(value, random_word(chance, n, 3))
            told = product(row, value) < 0 and is_free(value)
            if n == 9 and with_cubic(row) == 0 and value == cubic(9):
                told = row != multiplied(row[1], cubic(9)) or row[1] < 0
            self.assertIs(is_bar(row, value), told, (row, value))
            self.assertFalse(told and has_curves(row))
            seen[told] += 1
        self.assertTrue(min(seen.values()) > 100)

    def test_cubic_of_nine_points(self):
        level, below = (0, 1, -1, 0, 0, 0, 0, 0, 0, 0), (2,) + (1,) * 9
        self.assertEqual([is_bar(level, multiplied(t, cubic(9))) for t in (-1, 0, 1, 2)], [False, False, True, False])
        self.assertEqual([is_bar(below, multiplied(t, cubic(9))) for t in (-1, 0, 1, 2)], [False, False, True, True])
        self.assertEqual([is_bar(multiplied(t, cubic(9)), cubic(9)) for t in (-2, -1, 0, 1, 2)],
                         [True, True, False, False, False])
        self.assertIs(is_bar((4,) + (1,) * 9, cubic(9)), False)
        self.assertIs(is_bar((0, 1, -1, 0, 0, 0, 0, 0, 0), cubic(8)), False)
        self.assertIs(is_bar((0, 1, -1, 0, 0, 0, 0, 0, 0), cubic(9)), False)

    def test_far_bars(self):
        row = (-1,) + (0,) * 9
        for start in (line_row(9), (1, 1) + (0,) * 8, (3,) + (1,) * 8 + (0,)):
            self.assertIs(is_bar(row, climbed(start, 1900)), True)
            self.assertIs(is_bar(row, climbed(start, 1901)), False)
        self.assertIs(is_bar(row, climbed(point_row(9, 8), 1900)), False)
        self.assertIs(is_bar(row, climbed((4,) + (1,) * 9, 1900)), True)
        self.assertIs(is_bar(row, (GREATEST, GREATEST // 3) + (0,) * 8), True)
        self.assertIs(is_bar(row, (0, GREATEST, -GREATEST, -1, 0, 0, 0, 0, 0, 0)), False)
        far = climbed(WITHOUT, 1905)
        self.assertIs(is_bar(far, line_row(9)), False)
        too_many(self, 2000, bar, far)
        led = [start for start in (line_row(9), (1, 1) + (0,) * 8) if product(start, WITHOUT) < 0]
        word = undone(settling(climbed(WITHOUT, 1900)))
        for start in led:
            self.assertIs(is_bar(moved(WITHOUT, word), moved(start, word)), True)

    def test_bars_are_near(self):
        # Rows with many equal numbers on their walks: their bars are no farther than they are.
        for end in ((0, 1) + (-1,) * 8, (2, 3, -1, -1) + (-1,) * 6, (3, 4, 4, -5) + (-5,) * 6, (-1, 0, 0, -1) + (-1,) * 6):
            for many in (1, 50, 1899, 1900):
                row = climbed(settled(end), many)
                self.assertIs(is_bar(row, bar(row)), True)

    def test_wrong_values(self):
        for row in (WITHOUT, (-1, 0, 0, 0), (2,) + (1,) * 9):
            for wrong in wrong_values() + [cubic(4), line_row(16), list(cubic(9)), (True, 0, 0, 0), (1, 0, 0, False)]:
                self.assertIs(is_bar(row, wrong), False)
        self.assertIs(is_bar((-1, 0, 0, 0), (1, 0, 0, 0)), True)


class Shown(unittest.TestCase):

    def test_shows_no_more(self):
        for row in (FIVE, FOUR, LINES, (3, 1, 1, 1, 1, 1, 1), (0, 0, 0, 0, 0, 0, 0), (-1, 0, 0, 0, 0, 0, 0)):
            self.assertIs(shows_no_more(row, PRIME, GENERAL[:6]), True)
        self.assertIs(shows_no_more((2,) + (1,) * 6, 101, CIRCLE), False)
        self.assertIs(shows_no_more((2,) + (1,) * 6, PRIME, GENERAL[:6]), True)
        self.assertIs(shows_no_more((4,) + (2,) * 6, 101, CIRCLE), False)
        self.assertIs(shows_no_more((3,) + (1,) * 6, 101, CIRCLE), True)
        self.assertIs(shows_no_more(SEXTIC, PRIME, GENERAL[:8]), True)

    def test_never_fewer(self):
        chance = random.Random(27)
        points = [(x, y, 1) for x in range(5) for y in range(5)] + [(x, 1, 0) for x in range(5)] + [(1, 0, 0)]
        seen = {True: 0, False: 0}
        for _ in range(300):
            n = chance.randint(3, 9)
            some = tuple(chance.sample(points, n))
            row = (chance.randint(0, 6),) + tuple(chance.randint(-1, 3) for _ in range(n))
            there = count_at(5, some, row)
            self.assertTrue(there >= count(row))
            self.assertIs(shows_no_more(row, 5, some), there == count(row))
            seen[there == count(row)] += 1
        self.assertTrue(min(seen.values()) > 20)

    def test_errors(self):
        good = (FIVE, 101, CIRCLE)
        refuses(self, shows_no_more, good, 0, InvalidRow, FEW)
        refuses(self, shows_no_more, good, 1, InvalidNumber, NO_PRIMES + wrong_values())
        refuses(self, shows_no_more, good, 2, InvalidPoints, NO_TUPLES + [CIRCLE[:5], many_points(7), many_points(16)])
        nine = tuple((at, at * at, 1) for at in range(9))
        too_many(self, 16, shows_no_more, (17,) + (0,) * 6, 101, CIRCLE)
        too_many(self, 16, shows_no_more, (17,) + (200,) * 6, 101, CIRCLE)
        too_many(self, 200, shows_no_more, (16, 20, 0, 0, 0, 0, 0), 101, CIRCLE)
        too_many(self, 2000, shows_no_more, climbed(line_row(9), 1901), 101, nine)
        too_many(self, 16, shows_no_more, climbed(line_row(9), 1900), 101, nine)
        caught(self, InvalidPoints, shows_no_more, climbed(line_row(9), 1901), 101, CIRCLE)


class MainPromise(unittest.TestCase):

    def test_free_part(self):
        chance = random.Random(28)
        many = 0
        for _ in range(300):
            n = chance.randint(3, 8)
            row = (chance.randint(0, 9),) + tuple(chance.randint(-2, 4) for _ in range(n))
            if not has_curves(row):
                self.assertTrue(is_bar(row, bar(row)) and is_free(bar(row)))
                self.assertIs(has_curves(multiplied(6, row)), False)
                continue
            many += 1
            free = row
            taken = []
            for other in exceptional_rows(n):
                if product(row, other) < 0:
                    taken.append(other)
                    free = added(free, multiplied(product(row, other), other))
            self.assertTrue(is_free(free))
            self.assertEqual((count(row), count(free)), (counting(free), counting(free)))
            for at, one in enumerate(taken):
                self.assertEqual(product(one, free), 0)
                self.assertFalse(any(product(one, other) for other in taken[:at]))
            self.assertIs(is_free(row), not taken)
            self.assertIs(is_free(row), is_standard(settled(row)))
            self.assertIs(is_standard(step_by_hand(row, steps(row))), True)
        self.assertTrue(many > 50)

    def test_exceptional_rows_ask_for_one_curve(self):
        for n in range(3, 9):
            for row in exceptional_rows(n):
                self.assertEqual((count(row), count(multiplied(5, row)), settled(row)), (1, 1, point_row(n, n - 1)))

    def test_not_true(self):
        twice = (4, 2, 2, 2, 2, 2)
        self.assertEqual((counting(twice), count(twice)), (0, 1))
        self.assertTrue(count(twice) < 2 * count((2, 1, 1, 1, 1, 1)))
        # Both are exceptional, so their free parts are 0; their sum is free.
        one, other = (1, 1, 1, 0, 0), (1, 0, 0, 1, 1)
        self.assertEqual((product(one, other), is_free(added(one, other)), count(added(one, other))), (1, True, 2))

    def test_told_points_with_lines_and_conics(self):
        self.assertEqual(conditions_of((2,) + (1,) * 6), 6)
        self.assertEqual(count_at(101, CIRCLE, (2,) + (1,) * 6), 1)
        self.assertEqual(count((2,) + (1,) * 6), 0)
        self.assertEqual(less(FOUR, multiplied(2, FIVE)), (0,) * 7)


if __name__ == "__main__":
    unittest.main()
