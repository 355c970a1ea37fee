import random
import unittest
from itertools import product as every

from tests.kit import FIVE, GREATEST, LINES, SEXTIC, caught, climbed, refuses, too_many, wrong_values
from tests.test_moves import random_word
from tests.test_rows import NO_ROWS, random_row
from tests.test_steps import FEW
from timesthrough.count.counts import count
from timesthrough.count.steps import settled
from timesthrough.errors import InvalidNumber, InvalidOperation, InvalidRow
from timesthrough.rows.exceptional import exceptional_rows, is_exceptional, meetings, met_by, word_to
from timesthrough.rows.moves import is_word, moved, undone
from timesthrough.rows.rows import added, cubic, less, multiplied, point_row, product, square, with_cubic

MANY = {3: 6, 4: 10, 5: 16, 6: 27, 7: 56, 8: 240}
MEETINGS = {3: (3, 2), 4: (6, 3), 5: (10, 5), 6: (16, 10), 7: (27, 27, 1), 8: (56, 126, 56, 1)}
TIMES = {3: 1, 4: 2, 5: 4, 6: 9, 7: 28, 8: 240}
DEGREES = {3: 1, 4: 1, 5: 2, 6: 2, 7: 3, 8: 6}
EIGHT = NO_ROWS + [(3,) + (1,) * 9, (0,) * 10, (3,) + (1,) * 16]


class Exceptional(unittest.TestCase):

    def test_is_exceptional(self):
        for row in (FIVE, LINES, SEXTIC, (0, 0, -1, 0), (1, 1, 1, 0), (0,) * 9 + (-1,)):
            self.assertIs(is_exceptional(row), True)
        for row in (cubic(3), cubic(8), (1, 0, 0, 0), (0, 1, 0, 0), (0, 0, 0, 0), (2, 1, 1, 1, 1, 1, 1), (1, 1, 1, 1)):
            self.assertIs(is_exceptional(row), False)
        for row in every(range(-2, 4), repeat=4):
            self.assertIs(is_exceptional(row), square(row) == -1 and with_cubic(row) == 1)
            self.assertIs(is_exceptional(row), row in exceptional_rows(3))
        self.assertIs(is_exceptional((GREATEST, 0, 0, 0)), False)

    def test_exceptional_rows(self):
        self.assertEqual(exceptional_rows(3), (
            (0, -1, 0, 0), (0, 0, -1, 0), (0, 0, 0, -1), (1, 0, 1, 1), (1, 1, 0, 1), (1, 1, 1, 0)))
        for n, many in MANY.items():
            rows = exceptional_rows(n)
            self.assertEqual((len(rows), list(rows)), (many, sorted(set(rows))))
            self.assertTrue(all(is_exceptional(row) and len(row) == n + 1 for row in rows))
            self.assertEqual(max(row[0] for row in rows), DEGREES[n])
            self.assertEqual([row for row in rows if min(row[1:]) < 0], [point_row(n, at) for at in range(n)])
            self.assertTrue(all(row[0] >= 1 for row in rows if min(row) >= 0))
            found, new = {point_row(n, 0)}, [point_row(n, 0)]
            moves = [("turn", i, j, k) for i in range(n) for j in range(i + 1, n) for k in range(j + 1, n)]
            moves = moves + [("swap", i, i + 1) for i in range(n - 1)]
            while new:
                row = new.pop()
                for move in moves:
                    other = moved(row, (move,))
                    if other not in found:
                        found.add(other)
                        new.append(other)
            self.assertEqual(rows, tuple(sorted(found)))

    def test_sum_of_all(self):
        for n, times in TIMES.items():
            total = (0,) * (n + 1)
            for row in exceptional_rows(n):
                total = added(total, row)
            self.assertEqual(total, multiplied(times, cubic(n)))

    def test_meetings(self):
        for n, told in MEETINGS.items():
            rows = exceptional_rows(n)
            for row in rows[::7] + rows[-1:]:
                met = meetings(row)
                self.assertEqual(met, tuple(product(row, other) for other in rows))
                self.assertEqual((met.count(-1), sum(met)), (1, TIMES[n]))
                self.assertEqual([met.count(number) for number in range(4)], list(told) + [0] * (4 - len(told)))
                for number in range(-1, 4):
                    some = tuple(other for other in rows if product(row, other) == number)
                    self.assertEqual(met_by(row, number), some)

    def test_meetings_of_any_row(self):
        chance = random.Random(29)
        for _ in range(60):
            n = chance.randint(3, 8)
            row = random_row(chance, n)
            self.assertEqual(sum(meetings(row)), with_cubic(row) * TIMES[n])
            rows = exceptional_rows(n)
            self.assertEqual(meetings(row), tuple(product(row, other) for other in rows))
            number = chance.randint(-5, 5)
            self.assertEqual(met_by(row, number), tuple(other for other in rows if product(row, other) == number))
        self.assertEqual(met_by((0, 0, 0, 0), 0), exceptional_rows(3))
        self.assertEqual(met_by((0, 0, 0, 0), GREATEST), ())

    def test_long_meetings(self):
        row = (GREATEST, 0, 0, 0)
        self.assertEqual(meetings(row), (0, 0, 0, GREATEST, GREATEST, GREATEST))
        self.assertEqual(met_by(row, GREATEST), exceptional_rows(3)[3:])
        for long in ((GREATEST, -1, 0, 0), (-GREATEST, 1, 0, 0), (GREATEST // 2,) + (0,) * 7 + (-1,)):
            too_many(self, 200, meetings, long)
        self.assertEqual(met_by((GREATEST, -1, 0, 0), GREATEST), ((1, 0, 1, 1),))

    def test_word_to(self):
        chance = random.Random(30)
        for n in range(3, 9):
            for row in exceptional_rows(n)[::3]:
                word = word_to(row)
                self.assertIs(is_word(n, word), True)
                self.assertEqual(moved(point_row(n, n - 1), word), row)
                self.assertEqual(settled(row), point_row(n, n - 1))
                self.assertIs(is_exceptional(moved(row, random_word(chance, n))), True)
                apart = [moved(other, undone(word)) for other in met_by(row, 0)]
                if n > 3:
                    self.assertEqual(sorted(other[:-1] for other in apart), list(exceptional_rows(n - 1)))
                self.assertFalse(any(other[-1] for other in apart))

    def test_word_to_nine_points(self):
        for many in (0, 1, 2, 30, 1899, 1900):
            row = climbed(point_row(9, 8), many)
            self.assertIs(is_exceptional(row), True)
            word = word_to(row)
            self.assertIs(is_word(9, word), True)
            self.assertEqual(moved(point_row(9, 8), word), row)
        for many in (1901, 1950):
            row = climbed(point_row(9, 8), many)
            self.assertIs(is_exceptional(row), True)
            too_many(self, 2000, word_to, row)

    def test_not_true(self):
        one, other = (1, 1, 1, 0), (0, -1, 0, 0)
        self.assertEqual((product(one, other), square(added(one, other)), is_exceptional(added(one, other))), (1, 0, False))
        found = {climbed(point_row(9, 8), many) for many in range(50)}
        self.assertEqual((len(found), all(is_exceptional(row) for row in found)), (50, True))

    def test_one_curve(self):
        for row in [climbed(point_row(9, 8), many) for many in (0, 1, 5, 100)]:
            self.assertEqual((count(row), count(multiplied(9, row)), count(less(row, cubic(9)))), (1, 1, 0))

    def test_wrong(self):
        refuses(self, is_exceptional, (FIVE,), 0, InvalidRow, FEW)
        refuses(self, word_to, (FIVE,), 0, InvalidRow, FEW)
        refuses(self, word_to, (FIVE,), 0, InvalidOperation, [cubic(3), cubic(9), (0,) * 10, (0, 1, 0, 0), (1, 1, 1, 1)])
        caught(self, InvalidOperation, word_to, (0, GREATEST, -GREATEST, -2, 0, 0, 0, 0, 0, 0))
        refuses(self, exceptional_rows, (3,), 0, InvalidNumber, wrong_values() + [-3, 0, 1, 2, 9, 10, 16, "3", (3,)])
        refuses(self, meetings, (FIVE,), 0, InvalidRow, EIGHT)
        refuses(self, met_by, (FIVE, 0), 0, InvalidRow, EIGHT)
        refuses(self, met_by, (FIVE, 0), 1, InvalidNumber, wrong_values() + ["0", (0,)])


if __name__ == "__main__":
    unittest.main()
