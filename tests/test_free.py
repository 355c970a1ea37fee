import random
import unittest
from itertools import product as every

from tests.kit import (FIVE, GENERAL, GREATEST, PRIME, are_plain, caught, climbed, near_values, refuses, small_rows,
                       too_many, wrong_values)
from tests.test_counts import is_free as is_free_by_meetings
from tests.test_moves import NO_WORDS, by_hand, random_word
from tests.test_parts import FAR_BELOW
from tests.test_steps import FEW, stands
from timesthrough.count.counts import count, has_curves
from timesthrough.count.free import (free_word, has_base_point, is_free, is_free_word, is_met, is_one_curve, met,
                                     pencil_of)
from timesthrough.count.parts import parts
from timesthrough.count.steps import settled
from timesthrough.errors import InvalidOperation, InvalidRow
from timesthrough.plane.forms import count_at
from timesthrough.rows.exceptional import exceptional_rows
from timesthrough.rows.moves import is_word, moved
from timesthrough.rows.rows import added, counting, cubic, less, line_row, multiplied, point_row, product, square, with_cubic

CALLS = (is_free, free_word, met, is_one_curve, pencil_of, has_base_point)


def judged_met(row, value):
    """Whether the value is a bar of freedom, as the document says it."""
    if not are_plain(value) or not isinstance(value, tuple) or len(value) != len(row):
        return False
    if not all(isinstance(entry, int) for entry in value):
        return False
    if (square(value), with_cubic(value)) == (-1, 1) and product(row, value) < 0:
        return True
    if len(row) != 10 or value != cubic(9):
        return False
    times = row[1]
    return with_cubic(row) < 0 or with_cubic(row) == 0 and not (times >= 0 and row == multiplied(times, cubic(9)))


def random_low(chance, n):
    least = chance.choice((-1, 0, 0))
    return (chance.randint(0, 8),) + tuple(chance.choice((least, 0, 1, 1, 2, 3)) for _ in range(n))


def orbit(row):
    """All rows that moves of its points lead the row to, up to eight points."""
    n = len(row) - 1
    moves = [("swap", at, at + 1) for at in range(n - 1)] + [("turn", 0, 1, 2)]
    seen, new = {row}, [row]
    while new:
        one = new.pop()
        for move in moves:
            other = by_hand(one, (move,))
            if other not in seen:
                seen.add(other)
                new.append(other)
    return seen


class Free(unittest.TestCase):

    def test_told(self):
        self.assertIs(is_free((4, 2, 2, 1, 1, 1)), True)
        self.assertEqual(met((5, 3, 3, 1)), (1, 1, 1, 0))
        for row in ((0, 0, 0, 0), line_row(9), cubic(9), (6,) + (2,) * 9, (3,) + (1,) * 8, (2, 1, 1, 1)):
            self.assertIs(is_free(row), True)
            self.assertIs(met(row), None)
        for row in (FIVE, (0, -1, 0, 0), (-3,) + (-1,) * 9, (0, 1, -1) + (0,) * 7, (-1, 0, 0, 0), (0, 1, 0, 0)):
            self.assertIs(is_free(row), False)
            self.assertIs(free_word(row), None)

    def test_by_words_and_by_bars(self):
        chance = random.Random(41)
        seen = {True: 0, False: 0}
        for _ in range(800):
            n = chance.randint(3, 9)
            row = moved(random_low(chance, n), random_word(chance, n, 6))
            told = is_free_by_meetings(row)
            self.assertIs(is_free(row), told)
            word, found = free_word(row), met(row)
            self.assertEqual((word is None, found is None), (not told, told))
            if told:
                self.assertIs(is_word(n, word), True)
                self.assertIs(stands(by_hand(row, word)), True)
                self.assertIs(is_free_word(row, word), True)
                self.assertEqual(count(row), counting(row))
                self.assertTrue(count(row) >= 1)
            else:
                self.assertIs(judged_met(row, found), True)
                self.assertIs(is_met(row, found), True)
            self.assertIs(is_free(multiplied(2, row)), told)
            seen[told] += 1
        self.assertTrue(min(seen.values()) > 200)

    def test_sums(self):
        chance = random.Random(42)
        many = 0
        for _ in range(600):
            n = chance.randint(3, 9)
            one, other = random_low(chance, n), random_low(chance, n)
            if is_free(one) and is_free(other):
                many += 1
                self.assertIs(is_free(added(one, other)), True)
                self.assertTrue(product(one, other) >= 0)
        self.assertTrue(many > 50)

    def test_meeting_nought_times(self):
        chance = random.Random(43)
        zero = 0
        for n in (3, 4, 5, 9):
            rows = [row for row in small_rows(n, range(0, 4), (0, 1, 2)) if is_free(row)]
            for one, other in every(rows, rows):
                self.assertTrue(product(one, other) >= 0)
                word = random_word(chance, n, 3)
                left, right = pencil_of(moved(one, word)), pencil_of(moved(other, word))
                told = not any(one) or not any(other) or left is not None and right is not None and left[1] == right[1]
                if n == 9:
                    told = told or all(row == multiplied(row[1], cubic(9)) for row in (one, other))
                self.assertIs(product(one, other) == 0, told)
                zero += told
        self.assertTrue(zero > 50)

    def test_no_curve_in_common(self):
        for row in [(4, 2, 2, 1, 1, 1), (3,) + (1,) * 7, (2, 1, 1, 0, 0, 0), (6,) + (2,) * 8]:
            for other in exceptional_rows(len(row) - 1):
                self.assertTrue(count(less(row, other)) < count(row))
        for times in (1, 2, 9):
            self.assertEqual(count(multiplied(times, cubic(9))), 1)

    def test_far(self):
        for start in (line_row(9), (1, 1) + (0,) * 8, (3,) + (1,) * 8 + (0,), (2, 1, 1, 1, 1, 1, 0, 0, 0, -1),
                      point_row(9, 8), (1, 2) + (-1,) * 8):
            for many in (0, 1, 700, 1900):
                row = climbed(settled(start), many)
                told = stands(settled(start))
                self.assertIs(is_free(row), told)
                if told:
                    self.assertIs(stands(by_hand(row, free_word(row))), True)
                    self.assertIs(is_free_word(row, free_word(row)), True)
                    self.assertIs(met(row), None)
                else:
                    self.assertIs(free_word(row), None)
                    self.assertIs(is_met(row, met(row)), True)
                    self.assertIs(judged_met(row, met(row)), True)
            row = climbed(settled(start), 1901)
            for call in CALLS:
                too_many(self, 2000, call, row)
            for call in (is_free_word, is_met):
                for value in ((), None, row):
                    too_many(self, 2000, call, row, value)

    def test_is_free_word(self):
        chance = random.Random(44)
        seen = {True: 0, False: 0}
        rows = [(5, 2, 2, 2, 1), (3,) + (1,) * 9, (2, 1, 1, 1), FIVE, (7, 3, 3, 2, 2, 2, 2), (4, 3, 1, 1, 1, 1, 1)]
        rows += [moved(row, random_word(chance, len(row) - 1, 5)) for row in rows]
        for row in rows:
            n = len(row) - 1
            word = free_word(row) or ()
            values = near_values(word) + [word + random_word(chance, n, 3) for _ in range(20)]
            for value in values:
                told = is_word(n, value) and stands(by_hand(row, value))
                self.assertIs(is_free_word(row, value), told)
                seen[told] += 1
            for wrong in [wrong for wrong in NO_WORDS if not is_word(9, wrong)]:
                self.assertIs(is_free_word(row, wrong), False)
        self.assertTrue(min(seen.values()) > 30)
        swaps = (("swap", 0, 1),) * 2001
        self.assertEqual([is_free_word(cubic(3), swaps[:many]) for many in (0, 1999, 2000, 2001)], [True, True, True, False])

    def test_long_on_the_way(self):
        there = tuple(("turn",) + spots for spots in ((0, 1, 2), (3, 4, 5), (6, 7, 8))) * 300
        word = there + there[::-1]
        for row in (multiplied(10 ** 198, line_row(9)), (GREATEST,) + (0,) * 9):
            self.assertIs(is_free_word(row, word), True)
            self.assertIs(is_free_word(row, word[:-1]), False)

    def test_is_met(self):
        chance = random.Random(45)
        seen = {True: 0, False: 0}
        for row in [(5, 3, 3, 1), FIVE, (0, 1, -1) + (0,) * 7, (-3,) + (-1,) * 9, (2, 1, 1, 1, 1, 1, 1),
                    (3, 2) + (1,) * 6 + (0, 1), (3,) + (1,) * 9, (4, 3, 2, 0, 0, 0, 0, 0, 0, 0), (1, 0, 0, 0)]:
            bases = [point_row(len(row) - 1, 0), (1, 1, 1) + (0,) * (len(row) - 3), cubic(len(row) - 1)]
            values = [met(row)] if met(row) else []
            values += [moved(chance.choice(bases), random_word(chance, len(row) - 1, 4)) for _ in range(40)]
            for value in [near for value in values for near in near_values(value)] + values:
                told = judged_met(row, value)
                self.assertIs(is_met(row, value), told)
                seen[told] += 1
            for wrong in wrong_values() + [cubic(4), point_row(16, 0), list(cubic(9))]:
                self.assertIs(is_met(row, wrong), False)
        self.assertTrue(min(seen.values()) > 100)
        self.assertIs(is_met((0, 1, -1, 0), (1, 1, 0, 1)), True)
        self.assertIs(is_met((0, 1, -1, 0), (True, 1, 0, 1)), False)
        self.assertIs(is_met((0, 1, -1, 0), (1, 1, False, 1)), False)
        self.assertIs(is_met((0, 1, -1, 0, 0, 0, 0, 0, 0), cubic(8)), False)
        # The bar itself may be too far.
        self.assertIs(is_met((-1,) + (0,) * 9, climbed(point_row(9, 8), 1950)), True)

    def test_wrong(self):
        for call in CALLS:
            refuses(self, call, (FIVE,), 0, InvalidRow, FEW)
        for call in (is_free_word, is_met):
            refuses(self, call, (FIVE, ()), 0, InvalidRow, FEW)
        refuses(self, has_base_point, (cubic(8),), 0, InvalidOperation,
                [FIVE, (0, 1, 0, 0), (0, 1, -1) + (0,) * 7, point_row(9, 8), (-3,) + (-1,) * 9])
        too_many(self, 2000, has_base_point, FAR_BELOW)


class OneCurve(unittest.TestCase):

    def test_pencils(self):
        for n in (3, 4, 5, 6, 7, 8):
            pencils = orbit((1, 1) + (0,) * (n - 1))
            for pencil in sorted(pencils)[::max(1, len(pencils) // 40)]:
                for times in (1, 2, 5, 10 ** 150):
                    self.assertEqual(pencil_of(multiplied(times, pencil)), (times, pencil))
                    self.assertEqual(count(multiplied(times, pencil)), times + 1)
                    self.assertIs(is_one_curve(multiplied(times, pencil)), times == 1)
                self.assertIs(pencil_of(multiplied(-1, pencil)), None)
        for row in small_rows(4, range(-2, 6), range(-2, 5)):
            times = row[0] - row[1]
            told = [(t, other) for t in range(1, 8) for other in PENCILS if row == multiplied(t, other)]
            self.assertEqual(pencil_of(row), told[0] if told else None, times)
        for row in ((0,) * 10, cubic(9), line_row(9), point_row(9, 8), (0, 1, -1) + (0,) * 7, (-1, -1) + (0,) * 8):
            self.assertIs(pencil_of(row), None)
        for many in (1, 1900):
            row = climbed((1, 1) + (0,) * 8, many)
            self.assertEqual(pencil_of(multiplied(3, row)), (3, row))

    def test_free_rows_with_square_nought(self):
        for n in (3, 5, 8, 9):
            for row in small_rows(n, range(0, 7), (0, 1, 2)):
                if is_free(row) and square(row) == 0:
                    cubics = n == 9 and row == multiplied(row[1], cubic(9))
                    self.assertTrue(not any(row) or pencil_of(row) is not None or cubics)

    def test_one_curve(self):
        chance = random.Random(46)
        seen = {True: 0, False: 0}
        for _ in range(800):
            n = chance.randint(3, 8)
            row = (chance.randint(0, 4),) + tuple(chance.randint(-1, 2) for _ in range(n))
            told = (square(row), with_cubic(row)) == (-1, 1) or settled(row) == (1, 1) + (0,) * (n - 1)
            told = told or is_free_by_meetings(row) and square(row) > 0
            self.assertIs(is_one_curve(row), told)
            seen[told] += 1
            if told and has_curves(row):
                free, pairs = parts(row)
                self.assertTrue(len(pairs) == 0 or not any(free) and pairs == ((row, 1),))
        self.assertTrue(min(seen.values()) > 30)
        nine = {cubic(9): True, multiplied(2, cubic(9)): False, (0,) * 10: False, line_row(9): True,
                point_row(9, 3): True, multiplied(2, point_row(9, 3)): False, (3,) + (1,) * 8 + (0,): True,
                (0, 1, -1) + (0,) * 7: False, (1, 1) + (0,) * 8: True, (2, 2) + (0,) * 8: False, (-3,) + (-1,) * 9: False}
        for row, told in nine.items():
            self.assertIs(is_one_curve(row), told, row)
        for start in (point_row(9, 8), (1, 1) + (0,) * 8, line_row(9)):
            self.assertIs(is_one_curve(climbed(start, 1900)), True)
            self.assertIs(is_one_curve(multiplied(2, climbed(start, 500))), start[0] == 1 and start[1] == 0)

    def test_base_point(self):
        for n in (3, 5, 7, 8):
            for row in small_rows(n, range(0, 8), (0, 1, 2, 3)):
                if is_free(row):
                    self.assertIs(has_base_point(row), with_cubic(row) == 1)
                    self.assertEqual(has_base_point(row), row == cubic(8))
        many = [climbed((3,) + (1,) * 8 + (0,), at) for at in range(0, 30)]
        self.assertEqual(len(set(many)), 30)
        self.assertTrue(all(has_base_point(row) for row in many))
        self.assertEqual([has_base_point(row) for row in (cubic(9), line_row(9), (0,) * 10)], [False, False, False])
        # All cubics through eight points pass through a ninth one.
        for times in (1, 2):
            row = multiplied(times, cubic(8))
            self.assertEqual(count_at(PRIME, GENERAL[:8], row), count(row))

    def test_not_true(self):
        row = (3, 2, 1, 0, 0, 0, 0, 0)
        self.assertTrue(square((4, 3, 2, 0, 0)) >= 0 and with_cubic((4, 3, 2, 0, 0)) >= 0)
        self.assertEqual((is_free((4, 3, 2, 0, 0)), is_free(row)), (False, True))
        self.assertEqual((is_free(cubic(9)), square(cubic(9)), pencil_of(cubic(9))), (True, 0, None))


PENCILS = sorted(orbit((1, 1, 0, 0, 0)))


if __name__ == "__main__":
    unittest.main()
