import random
import unittest

from tests.kit import FIVE, FOUR, GREATEST, SEXTIC, caught, refuses, too_many, wrong_values
from timesthrough.errors import InvalidNumber, InvalidRow
from timesthrough.rows import rows as module
from timesthrough.rows.rows import (added, conditions_of, counting, cubic, genus, is_row, less, line_row, multiplied,
                                    point_row, product, square, terms_of, with_cubic)

NO_ROWS = wrong_values() + [
    (), (1,), (1, 1, 1), (1,) * 18, [1, 1, 1, 1], (1, 1, 1, True), (False, 0, 0, 0), (1, 1, 1, None), (1, 1, 1, "1"),
    (1, 1, (1,), 1), (1, 1, 1, 10 ** 200), (-10 ** 200, 1, 1, 1)]
NO_MANY = wrong_values() + [-3, 0, 1, 2, 17, 18, 10 ** 100, "3", (3,)]


def random_row(chance, n):
    return tuple(chance.randint(-9, 9) for _ in range(n + 1))


class Rows(unittest.TestCase):

    def test_constants(self):
        self.assertEqual((module.LEAST_POINTS, module.MOST_POINTS, module.MOST_DIGITS), (3, 16, 200))

    def test_is_row(self):
        for many in range(0, 20):
            self.assertIs(is_row((2,) * many), 4 <= many <= 17, many)
        self.assertIs(is_row((GREATEST, -GREATEST, 0, -1)), True)
        self.assertIs(is_row((-5, 3, 3, 3)), True)
        for wrong in NO_ROWS:
            self.assertIs(is_row(wrong), False)

    def test_told_rows(self):
        self.assertEqual([cubic(3), line_row(3)], [(3, 1, 1, 1), (1, 0, 0, 0)])
        self.assertEqual([point_row(3, index) for index in range(3)], [(0, -1, 0, 0), (0, 0, -1, 0), (0, 0, 0, -1)])
        for n in range(3, 17):
            self.assertEqual([cubic(n), line_row(n)], [(3,) + (1,) * n, (1,) + (0,) * n])
            self.assertEqual([sum(point_row(n, index)) for index in range(n)], [-1] * n)
            self.assertEqual([point_row(n, index)[index + 1] for index in range(n)], [-1] * n)
            caught(self, InvalidNumber, point_row, n, n)

    def test_told_rows_wrong(self):
        for call, args in ((cubic, (3,)), (line_row, (3,)), (point_row, (3, 0))):
            refuses(self, call, args, 0, InvalidNumber, NO_MANY)
        refuses(self, point_row, (3, 0), 1, InvalidNumber, wrong_values() + [-1, 3, 10 ** 100])

    def test_numbers(self):
        self.assertEqual([product(FIVE, FOUR), square(FIVE), with_cubic(FIVE)], [-2, -1, 1])
        self.assertEqual([counting(FIVE), counting(FOUR), genus(FIVE), genus(SEXTIC)], [1, 0, 0, 0])
        self.assertEqual(product((5, 1, 2, 3), (7, 4, 5, 6)), 35 - 4 - 10 - 18)
        self.assertEqual([counting((-1, 0, 0, 0)), counting((-2, 0, 0, 0)), counting((-3, 0, 0, 0))], [0, 0, 1])
        self.assertEqual([genus((3, 0, 0, 0)), genus((3, 2, 0, 0)), genus((0, 0, 0, 0))], [1, 0, 1])

    def test_random_numbers(self):
        chance = random.Random(6)
        for _ in range(300):
            n = chance.randint(3, 16)
            one, other = random_row(chance, n), random_row(chance, n)
            told = one[0] * other[0] - sum(one[at] * other[at] for at in range(1, n + 1))
            self.assertEqual(product(one, other), told)
            self.assertEqual(product(other, one), told)
            self.assertEqual(square(one), product(one, one))
            self.assertEqual(with_cubic(one), product(one, cubic(n)))
            self.assertEqual(2 * (counting(one) - 1), square(one) + with_cubic(one))
            self.assertEqual(2 * (genus(one) - 1), square(one) - with_cubic(one))
            if one[0] >= -2 and min(one[1:]) >= -1:
                self.assertEqual(counting(one), terms_of(one) - conditions_of(one))

    def test_terms_and_conditions(self):
        self.assertEqual([terms_of((degree, 0, 0, 0)) for degree in (-10, -3, -2, -1, 0, 1, 2, 4)],
                         [0, 0, 0, 0, 1, 3, 6, 15])
        self.assertEqual(conditions_of((9, 1, 2, 3)), 10)
        self.assertEqual(conditions_of((9, 0, -2, -3)), 0)
        self.assertEqual(conditions_of((-9, 4, -2, 1)), 11)

    def test_great_numbers(self):
        row = (GREATEST,) + (-GREATEST,) * 16
        self.assertEqual(square(row), -15 * GREATEST ** 2)
        self.assertEqual(with_cubic(row), 19 * GREATEST)
        self.assertEqual(terms_of(row), (GREATEST + 1) * (GREATEST + 2) // 2)
        self.assertEqual(conditions_of((0, GREATEST, -GREATEST, 1)), GREATEST * (GREATEST + 1) // 2 + 1)
        self.assertEqual(counting(row), (square(row) + with_cubic(row)) // 2 + 1)

    def test_sums(self):
        chance = random.Random(7)
        for _ in range(200):
            n = chance.randint(3, 16)
            one, other, third = (random_row(chance, n) for _ in range(3))
            both, rest = added(one, other), less(one, other)
            self.assertEqual(both, tuple(one[at] + other[at] for at in range(n + 1)))
            self.assertEqual(rest, tuple(one[at] - other[at] for at in range(n + 1)))
            self.assertEqual(multiplied(3, one), added(one, added(one, one)))
            self.assertEqual(multiplied(-1, one), less(other, both))
            self.assertEqual(multiplied(0, one), (0,) * (n + 1))
            self.assertEqual(product(both, third), product(one, third) + product(other, third))
            self.assertEqual(counting(both), counting(one) + counting(other) + product(one, other) - 1)
            self.assertEqual(genus(both), genus(one) + genus(other) + product(one, other) - 1)

    def test_long_sums(self):
        great, low = (GREATEST, 0, 0, 0), (-GREATEST, 0, 0, 0)
        self.assertEqual(added(great, low), (0, 0, 0, 0))
        self.assertEqual(multiplied(-1, great), low)
        self.assertEqual(multiplied(GREATEST, (0, 0, 1, 0)), (0, 0, GREATEST, 0))
        too_many(self, 200, added, great, (1, 0, 0, 0))
        too_many(self, 200, added, (0, -GREATEST, 0, 0), (0, -1, 0, 0))
        too_many(self, 200, less, low, (1, 0, 0, 0))
        too_many(self, 200, less, great, (-1, 0, 0, 0))
        too_many(self, 200, multiplied, 2, great)
        too_many(self, 200, multiplied, 10 ** 199, (0, 0, 0, 10))

    def test_wrong(self):
        for call in (square, with_cubic, counting, genus, terms_of, conditions_of):
            refuses(self, call, (FIVE,), 0, InvalidRow, NO_ROWS)
        for call in (product, added, less):
            refuses(self, call, (FIVE, FOUR), 0, InvalidRow, NO_ROWS)
            refuses(self, call, (FIVE, FOUR), 1, InvalidRow, NO_ROWS + [(1,) * 6, (1,) * 8])
        refuses(self, multiplied, (2, FIVE), 0, InvalidNumber,
                [wrong for wrong in wrong_values()] + [10 ** 200, "2", (2,)])
        refuses(self, multiplied, (2, FIVE), 1, InvalidRow, NO_ROWS)


if __name__ == "__main__":
    unittest.main()
