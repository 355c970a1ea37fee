import random
import unittest
from itertools import combinations

from tests.kit import FIVE, GENERAL, GREATEST, PRIME, SEXTIC, caught, refuses, too_many, wrong_values
from timesthrough.count.counts import count
from timesthrough.count.steps import is_free_row
from timesthrough.errors import InvalidNumber, InvalidPoints, InvalidRow
from timesthrough.many.bounds import (
    FEWEST, MOST_STEPS, bounds, end_of_steps, is_led_to_point, is_square_barred, row_above, row_below, word_to_point)
from timesthrough.plane.forms import count_at
from timesthrough.plane.points import are_points
from timesthrough.rows.moves import is_word, moved, moved_far
from timesthrough.rows.rows import counting, cubic, line_row, multiplied, point_row, product, square, with_cubic

TEN = (6, 2, 2, 2, 2, 2, 2, 2, 2, 1, 1)
PENT = (5, 3, 3, 1, 1, 1, 1, 1, 1, 1, 1)
SIXTEEN = GENERAL + ((5, 7, 1), (113, 4021, 1), (977, 31, 1), (5003, 60013, 1), (4441, 17, 1), (31, 2221, 1), (9001, 64007, 1))
ALONE = (end_of_steps, row_below, is_square_barred, is_led_to_point, word_to_point)
WITH_POINTS = (row_above, bounds)
NO_ROWS = wrong_values() + [FIVE, cubic(9), SEXTIC, (3,) + (1,) * 17, list(cubic(10)), cubic(10)[:-1] + (True,)]


def zeros(row, n=10):
    return row + (0,) * (n + 1 - len(row))


def random_row(chance, n, most=9):
    return (chance.randint(-1, most),) + tuple(chance.randint(-2, chance.choice((1, 2, 3, 5))) for _ in range(n))


def any_end(chance, row):
    """The end of steps that are chosen by chance, as [19.1] tells them."""
    entries = list(row)
    for _ in range(5000):
        if entries[0] < 0:
            return ("below",)
        below = [at for at in range(1, len(entries)) if entries[at] < 0]
        if below:
            entries[chance.choice(below)] = 0
            continue
        over = [some for some in combinations(range(1, len(entries)), 3) if sum(entries[at] for at in some) > entries[0]]
        if not over:
            return ("at", (entries[0],) + tuple(sorted(entries[1:], reverse=True)))
        some = chance.choice(over)
        change = entries[0] - sum(entries[at] for at in some)
        for at in (0,) + some:
            entries[at] += change
    raise AssertionError(row)


def climbed(row, many):
    """The row after turns at three points with least numbers."""
    word = []
    entries = list(row)
    for _ in range(many):
        least = sorted(range(len(entries) - 1), key=lambda at: (entries[at + 1], at))[:3]
        word.append(("turn",) + tuple(sorted(least)))
        entries = moved_far(entries, word[-1:])
    return tuple(entries)


class Bounds(unittest.TestCase):

    def test_told(self):
        self.assertEqual((FEWEST, MOST_STEPS), (10, 2000))
        self.assertEqual(
            [end_of_steps(TEN), row_below(TEN), end_of_steps(zeros((2, 2, 2, 2))), row_below(zeros((4, 2, 2, 2, 2, 2)))],
            [("at", TEN), 2, ("below",), 1])
        self.assertEqual([end_of_steps(cubic(n)) for n in (10, 16)], [("at", cubic(10)), ("at", cubic(16))])
        self.assertEqual([row_below(cubic(n)) for n in (10, 16)], [0, 0])
        self.assertEqual(end_of_steps((0,) * 11), ("at", (0,) * 11))
        self.assertEqual(end_of_steps((0,) + (-5,) * 16), ("at", (0,) * 17))
        self.assertEqual(end_of_steps((-1,) + (0,) * 10), ("below",))
        self.assertEqual(end_of_steps((-1,) + (-9,) * 10), ("below",))
        self.assertEqual(end_of_steps((0, 1) + (0,) * 9), ("below",))
        self.assertEqual(end_of_steps((5, 1, -2, 2, 0, 0, 0, 0, 0, 0, 1)), ("at", zeros((5, 2, 1, 1))))

    def test_any_steps(self):
        chance = random.Random(210)
        seen = {"below": 0, "at": 0}
        for _ in range(300):
            row = random_row(chance, chance.randint(10, 16), chance.choice((4, 9, 14)))
            end = end_of_steps(row)
            seen[end[0]] += 1
            self.assertEqual(any_end(chance, row), end)
            if end[0] == "at":
                self.assertEqual(row_below(row), max(0, counting(end[1])))
                self.assertTrue(min(end[1]) >= 0 and end[1][0] >= sum(end[1][1:4]))
                self.assertEqual(list(end[1][1:]), sorted(end[1][1:], reverse=True))
            else:
                self.assertEqual(row_below(row), 0)
        self.assertTrue(min(seen.values()) > 40)

    def test_nine_points_and_zeros(self):
        chance = random.Random(211)
        for _ in range(200):
            n = chance.randint(3, 9)
            row = (chance.randint(0, 9),) + tuple(chance.randint(-1, 4) for _ in range(n))
            if with_cubic(row) > 0 or n < 9:
                for many in (10, 13, 16):
                    longer = zeros(row, many)
                    self.assertEqual(row_below(longer), count(row))
                    self.assertEqual(bounds(PRIME, SIXTEEN[:many], longer)[0] == "exact", True)

    def test_square_barred(self):
        for n in range(10, 16):
            self.assertIs(is_square_barred((1,) + (5,) * n), False)
        for row, told in (((4,) + (1,) * 16, True), ((5,) + (1,) * 16, False), ((4,) + (1,) * 15 + (0,), False),
                          ((4,) + (1,) * 15 + (2,), True), ((0,) * 17, False), ((0, 1) + (0,) * 15, True),
                          ((0, -1) + (0,) * 15, False), ((0, 1, -1) + (0,) * 14, True), ((0, 1, -2) + (0,) * 14, False),
                          ((-1,) + (0,) * 16, False), ((-1, 1) + (0,) * 15, True), ((-2,) + (-1,) * 16, False),
                          ((1,) + (0,) * 16, False), ((1, 5, -1) + (0,) * 14, True), ((1, 5, -2) + (0,) * 14, False),
                          ((100,) + (25,) * 16, True), ((101,) + (25,) * 16, False), ((-1, -4) + (0,) * 15, False),
                          ((-10 ** 199, 1) + (0,) * 15, True)):
            self.assertIs(is_square_barred(row), told, row)

    def test_above(self):
        chance = random.Random(212)
        seen = {}
        for _ in range(120):
            n = chance.randint(10, 16)
            row = random_row(chance, n, chance.choice((3, 5, 8)))
            end = end_of_steps(row)
            high = row_above(PRIME, SIXTEEN[:n], row)
            if end[0] == "below" or is_square_barred(row):
                self.assertEqual(high, 0)
            else:
                self.assertEqual(high, count_at(PRIME, SIXTEEN[:n], end[1]))
            low = row_below(row)
            self.assertTrue(low <= high or is_square_barred(row))
            self.assertEqual(bounds(PRIME, SIXTEEN[:n], row), ("exact", low) if low == high else ("open", low, high))
            if row[0] >= 0:
                self.assertTrue(count_at(PRIME, SIXTEEN[:n], row) >= low)
            seen[low == high] = seen.get(low == high, 0) + 1
        self.assertTrue(seen[True] > 100)

    def test_barred_rows_have_the_upper_bound_nought(self):
        row = (4,) + (1,) * 16
        self.assertEqual((row_above(PRIME, SIXTEEN, row), row_below(row), bounds(PRIME, SIXTEEN, row)), (0, 0, ("exact", 0)))
        # Barred rows are not counted at the points: so this one is not too long for that.
        row = (100,) + (25,) * 16
        self.assertEqual(row_above(PRIME, SIXTEEN, row), 0)
        too_many(self, 16, row_above, PRIME, SIXTEEN, (101,) + (25,) * 16)
        too_many(self, 16, bounds, PRIME, SIXTEEN, (17,) + (0,) * 16)
        row, longer = (16,) + (5,) * 12 + (4, 4), (16,) + (5,) * 12 + (4, 4, 1)
        self.assertEqual(sum(number * (number + 1) // 2 for number in row[1:]), 200)
        self.assertEqual(bounds(PRIME, SIXTEEN[:14], row), ("exact", 0))
        too_many(self, 200, row_above, PRIME, SIXTEEN[:15], longer)
        too_many(self, 200, bounds, PRIME, SIXTEEN[:15], longer)
        self.assertEqual(row_above(PRIME, SIXTEEN, (-1,) + (100,) * 16), 0)

    def test_special_points(self):
        # Ten points on a conic have more curves than general ones.
        conic = tuple((at, at * at, 1) for at in range(10))
        row = (4,) + (2,) * 10
        self.assertEqual((end_of_steps(row)[0], row_below(row)), ("below", 0))
        row = (5,) + (1,) * 10 + (2,) * 5
        self.assertEqual(bounds(PRIME, SIXTEEN[:15], row), ("exact", 0))
        row = (3,) + (1,) * 10
        self.assertEqual(bounds(PRIME, SIXTEEN[:10], row), ("exact", 0))
        self.assertEqual(bounds(PRIME, conic, row), ("open", 0, 3))
        self.assertEqual((row_above(PRIME, conic, row), row_below(row)), (3, 0))
        # The upper bound by some points need not be exact, nor is that of a counting below 1.
        self.assertTrue(counting(row) < 1 <= count_at(PRIME, conic, row))

    def test_which_point_has_which_number(self):
        line = ((0, 0, 1), (1, 0, 1), (2, 0, 1)) + SIXTEEN[3:10]
        rows = [zeros((1, 1, 1, 1)), (1, 0, 0, 0, 0, 0, 0, 0, 1, 1, 1), (2, 1, 0, 1, 0, 1, 0, 0, 0, 0, 1)]
        for row in rows:
            end = end_of_steps(row)
            told = 0 if end[0] == "below" else count_at(PRIME, line, end[1])
            self.assertEqual(row_above(PRIME, line, row), told)

    def test_turns(self):
        for many in (1, 500, 1999, 2000):
            self.assertEqual(end_of_steps(zeros((many - 1, many))), ("below",))
            self.assertEqual(row_below(zeros((many - 1, many), 16)), 0)
            self.assertEqual(row_above(PRIME, SIXTEEN[:10], zeros((many - 1, many))), 0)
        for many in (2001, 2002, 10 ** 199):
            row = zeros((many - 1, many))
            for call in (end_of_steps, row_below):
                too_many(self, 2000, call, row)
            for call in WITH_POINTS:
                too_many(self, 2000, call, PRIME, SIXTEEN[:10], row)
            self.assertIs(is_square_barred(row), False)
        row = (2000, 2001) + (0,) * 14 + (6000,)
        self.assertIs(is_square_barred(row), True)
        start = (1,) + (0,) * 9
        for many in (1999, 2000, 2001):
            row = zeros(climbed(start, many))
            if many <= 2000:
                self.assertEqual(end_of_steps(row), ("at", zeros((1,))))
                self.assertEqual(row_below(row), 3)
                self.assertEqual(bounds(PRIME, SIXTEEN[:10], row), ("exact", 3))
            else:
                too_many(self, 2000, end_of_steps, row)
        # TooMany stands ahead of what is barred.
        row = (6001, 6002) + (0,) * 14 + (60000,)
        self.assertIs(is_square_barred(row), True)

    def test_wrong(self):
        for call in ALONE:
            refuses(self, call, (TEN,), 0, InvalidRow, NO_ROWS)
        no_points = wrong_values() + [((0, 0, 1), (0, 1, 0)), SIXTEEN + ((3, 3, 1),), SIXTEEN[:9] + SIXTEEN[:1]]
        for call in WITH_POINTS:
            refuses(self, call, (PRIME, SIXTEEN[:10], TEN), 0, InvalidNumber, wrong_values() + [4, 9, 65536, 65537])
            refuses(self, call, (PRIME, SIXTEEN[:10], TEN), 1, InvalidPoints, no_points)
            refuses(self, call, (PRIME, SIXTEEN[:10], TEN), 2, InvalidRow, NO_ROWS + [cubic(11), cubic(16)])
            for many in (3, 8, 9):
                caught(self, InvalidRow, call, PRIME, SIXTEEN[:many], TEN)
                caught(self, InvalidRow, call, PRIME, SIXTEEN[:many], cubic(many))
        self.assertTrue(are_points(PRIME, SIXTEEN))


class Led(unittest.TestCase):

    def test_told(self):
        self.assertIs(is_led_to_point(PENT), False)
        self.assertEqual((square(PENT), with_cubic(PENT), word_to_point(PENT)), (-1, 1, None))
        for n in (10, 16):
            for index in (0, 5, n - 1):
                self.assertIs(is_led_to_point(point_row(n, index)), True)
                self.assertEqual(word_to_point(point_row(n, index)), ())
        for row in (line_row(10), (0,) * 11, multiplied(2, point_row(10, 0)), (0, 1) + (0,) * 9, (0, -1, -1) + (0,) * 8,
                    (1, 1, 1) + (1,) + (0,) * 7, cubic(10), (-1,) + (0,) * 10, (1, -1) + (0,) * 9):
            self.assertIs(is_led_to_point(row), False)
            self.assertIs(word_to_point(row), None)
        for row in (zeros((1, 1, 1)), zeros((2, 1, 1, 1, 1, 1)), zeros(SEXTIC), (3, 0, 1, 1, 1, 1, 0, 1, 2, 0, 1)):
            self.assertIs(is_led_to_point(row), True)

    def test_words(self):
        chance = random.Random(213)
        seen = {True: 0, False: 0}
        for _ in range(400):
            n = chance.randint(10, 16)
            row = point_row(n, chance.randint(0, n - 1)) if chance.random() < 0.7 else random_row(chance, n, 4)
            word = tuple(("turn",) + tuple(sorted(chance.sample(range(n), 3))) for _ in range(chance.randint(0, 12)))
            start, row = row, moved(row, word)
            told = is_led_to_point(row)
            if start[0] == 0 and sorted(start) == [-1] + [0] * n:
                self.assertIs(told, True)
            found = word_to_point(row)
            self.assertIs(found is not None, told)
            if told:
                self.assertIs(is_word(n, found), True)
                end = moved(row, found)
                self.assertEqual((end[0], sorted(end[1:])), (0, [-1] + [0] * (n - 1)))
                self.assertEqual((square(row), with_cubic(row)), (-1, 1))
            seen[told] += 1
        self.assertTrue(min(seen.values()) > 50)

    def test_taken_off(self):
        # The curve of a row that is led to a point is at least so many times in all curves of a row.
        for row, times in ((zeros((4, 2, 2, 2, 2, 2)), 2), (zeros((5, 4, 3, 1)), 2), ((7,) + (3,) * 5 + (1,) * 5, 1)):
            line = zeros((2, 1, 1, 1, 1, 1)) if row[4] else zeros((1, 1, 1))
            self.assertEqual(product(row, line), -times)
            self.assertIs(is_led_to_point(line), True)
            left = tuple(entry - times * other for entry, other in zip(row, line))
            self.assertEqual(count_at(PRIME, SIXTEEN[:10], row), count_at(PRIME, SIXTEEN[:10], left))

    def test_many_turns(self):
        for many in (1, 1000, 1999, 2000, 2001, 2002):
            row = zeros(climbed(point_row(9, 8), many), 11)
            if many <= 2000:
                self.assertIs(is_led_to_point(row), True)
                word = word_to_point(row)
                self.assertEqual(len(word), many)
                self.assertEqual(sorted(moved(row, word)), [-1] + [0] * 11)
            else:
                for call in (is_led_to_point, word_to_point):
                    too_many(self, 2000, call, row)
            # Each row is walked so long, also one that cannot be led to a point.
            row = zeros(climbed((1,) + (0,) * 9, many), 11)
            if many <= 2000:
                self.assertIs(is_led_to_point(row), False)
            else:
                too_many(self, 2000, is_led_to_point, row)
        self.assertIs(is_led_to_point((GREATEST,) + (0,) * 10), False)
        self.assertIs(is_led_to_point(zeros((10 ** 100, 10 ** 100 + 1))), False)

    def test_free_rows_are_not_led(self):
        for row in ((3,) + (1,) * 9, (1,) + (0,) * 9):
            self.assertIs(is_free_row(row), True)
            self.assertIs(is_led_to_point(zeros(row)), False)


if __name__ == "__main__":
    unittest.main()
