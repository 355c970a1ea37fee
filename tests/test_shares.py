import random
import unittest
from fractions import Fraction
from math import gcd

from tests.kit import GREATEST, caught, is_just, near_values, refuses, wrong_values
from timesthrough.count.counts import has_curves
from timesthrough.count.free import is_free
from timesthrough.errors import InvalidNumber, InvalidWeights
from timesthrough.rows.exceptional import exceptional_rows, is_exceptional
from timesthrough.rows.moves import moved
from timesthrough.rows.rows import cubic, is_row, multiplied, product
from timesthrough.share.shares import (
    free_bar, free_share, is_free_bar, is_share_paper, least_degree, least_free_degree, least_share, share_paper)

NO_WEIGHTS = wrong_values() + [
    (0, 0, 0), (0,) * 8, (0,) * 9, (1, 1), (1,) * 10, (1,) * 8 + (2,), (0,) + (1,) * 8, (-1, 1, 1), (1, 1, -1),
    (10 ** 6 + 1, 0, 0), (10 ** 6 + 1,) * 9, (1,) * 8 + (True,), (True, 1, 1), [1, 1, 1], (1, 1, "1"), (1, None, 1)]
ALONE = (least_share, free_share, share_paper, free_bar)


def orbit(row):
    """All rows to which moves of its points lead the row; there are finitely many."""
    n = len(row) - 1
    letters = [(("swap", at, at + 1),) for at in range(n - 1)] + [(("turn", 0, 1, 2),)]
    seen, new = {row}, [row]
    while new:
        one = new.pop()
        for letter in letters:
            other = moved(one, letter)
            if other not in seen:
                seen.add(other)
                new.append(other)
    return sorted(seen)


def by_free_rows(weights, rows):
    """The least t that is met below 0 by none of the rows."""
    found = max(Fraction(sum(m * w for m, w in zip(row[1:], weights)), row[0]) for row in rows if row[0] > 0)
    return (found.numerator, found.denominator)


def judged_paper(weights, value):
    """Whether the value is a paper, as [16.3] tells it, by fractions."""
    if not (isinstance(value, tuple) and len(value) == 2 and isinstance(value[0], tuple) and is_row(value[1])):
        return False
    terms, free = value
    n = len(weights)
    row = (Fraction(*least_share(weights)),) + weights
    for term in terms:
        if not (isinstance(term, tuple) and len(term) == 2 and is_row(term[0]) and len(term[0]) == n + 1):
            return False
        if not (term[0] == cubic(9) if n == 9 else is_exceptional(term[0])):
            return False
        share = term[1]
        if not (isinstance(share, tuple) and len(share) == 2 and all(is_row((part, 0, 0, 0)) for part in share)):
            return False
        if share[0] < 1 or share[1] < 1 or gcd(*share) != 1:
            return False
    if list(terms) != sorted(set(terms)) or len({term[0] for term in terms}) != len(terms):
        return False
    for at in range(n + 1):
        if sum(Fraction(*share) * other[at] for other, share in terms) != row[at]:
            return False
    if len(free) != n + 1 or not any(free):
        return False
    return row[0] * free[0] == sum(m * w for m, w in zip(free[1:], weights)) and is_free(free)


def random_weights(chance, n):
    most = chance.choice((1, 2, 5, 30, 10 ** 6))
    if n == 9:
        return (chance.randint(1, most),) * 9
    weights = tuple(chance.choice((0, chance.randint(0, most), chance.randint(0, most))) for _ in range(n))
    return weights if any(weights) else (1,) * n


class Shares(unittest.TestCase):

    def test_told(self):
        self.assertEqual([least_share((1,) * n) for n in range(3, 10)],
                         [(3, 2), (2, 1), (2, 1), (12, 5), (21, 8), (48, 17), (3, 1)])
        self.assertEqual([free_share((1,) * n) for n in range(3, 10)],
                         [(2, 1), (2, 1), (5, 2), (5, 2), (8, 3), (17, 6), (3, 1)])
        self.assertEqual(least_share((0, 0, 5)), (5, 1))
        self.assertEqual(free_share((0, 0, 5)), (5, 1))
        self.assertEqual(least_share((10 ** 6,) * 9), (3 * 10 ** 6, 1))
        self.assertEqual(least_share((10 ** 6,) * 8), (48 * 10 ** 6, 17))

    def test_by_all_free_rows(self):
        chance = random.Random(160)
        for n in range(3, 8):
            rows = orbit((1,) + (0,) * n) + orbit((1, 1) + (0,) * (n - 1)) + [cubic(n)]
            for _ in range(60 if n < 7 else 25):
                weights = random_weights(chance, n)
                self.assertEqual(least_share(weights), by_free_rows(weights, rows))
                self.assertEqual(free_share(weights), by_free_rows(weights, exceptional_rows(n)))

    def test_least_degrees_by_counts(self):
        chance = random.Random(161)
        for _ in range(150):
            n = chance.randint(3, 9)
            weights = random_weights(chance, n) if chance.random() < 0.3 else tuple(chance.randint(0, 3) for _ in range(n))
            if n == 9:
                weights = (chance.randint(1, 5),) * 9
            if not any(weights):
                continue
            for m in (1, 2, 3, chance.randint(4, 40), 10 ** 50 if n < 9 else 10 ** 40):
                least, least_free = least_degree(weights, m), least_free_degree(weights, m)
                for d, judge in ((least, has_curves), (least_free, is_free)):
                    self.assertIs(judge((d,) + tuple(m * weight for weight in weights)), True)
                    self.assertIs(judge((d - 1,) + tuple(m * weight for weight in weights)), False)
                for (top, bottom), d in ((least_share(weights), least), (free_share(weights), least_free)):
                    self.assertEqual(d, -(-m * top // bottom))

    def test_twice(self):
        chance = random.Random(162)
        for _ in range(200):
            n = chance.randint(3, 9)
            row = (chance.randint(0, 9),) + tuple(chance.randint(-1, 5) for _ in range(n))
            self.assertIs(has_curves(row), has_curves(multiplied(2, row)))

    def test_not_true(self):
        # The least degree for m times is not m times the least degree for once.
        self.assertEqual([least_degree((1,) * 8, m) for m in (1, 2, 17)], [3, 6, 48])
        self.assertEqual([least_degree((1,) * 3, m) for m in (1, 2, 3, 4)], [2, 3, 5, 6])

    def test_wrong(self):
        for call in ALONE:
            refuses(self, call, ((1, 1, 1),), 0, InvalidWeights, NO_WEIGHTS)
        for call in (least_degree, least_free_degree):
            refuses(self, call, ((1, 1, 1), 1), 0, InvalidWeights, NO_WEIGHTS)
            refuses(self, call, ((1, 1, 1), 1), 1, InvalidNumber, wrong_values() + [0, -1, 10 ** 50 + 1, GREATEST])
            self.assertEqual(caught(self, InvalidNumber, call, (1,) * 9, 10 ** 50 + 1).given, 10 ** 50 + 1)
            self.assertTrue(call((10 ** 6,) * 8, 10 ** 50) > 10 ** 56)
        for call in (is_share_paper, is_free_bar):
            refuses(self, call, ((1, 1, 1), None), 0, InvalidWeights, NO_WEIGHTS)


class Papers(unittest.TestCase):

    def test_papers(self):
        chance = random.Random(163)
        for at in range(300):
            n = 3 + at % 7
            weights = random_weights(chance, n)
            paper = share_paper(weights)
            self.assertIs(judged_paper(weights, paper), True, weights)
            self.assertIs(is_share_paper(weights, paper), True)
            self.assertTrue(len(paper[0]) <= 500)

    def test_nine(self):
        self.assertEqual(share_paper((4,) * 9), (((cubic(9), (4, 1)),), cubic(9)))
        self.assertEqual(free_bar((4,) * 9), cubic(9))
        for times in (1, 2, 10 ** 100):
            self.assertIs(is_share_paper((4,) * 9, (((cubic(9), (4, 1)),), multiplied(times, cubic(9)))), True)
        for terms in ((), ((cubic(9), (4, 2)),), ((cubic(9), (8, 2)),), ((cubic(9), (2, 1)), (cubic(9), (2, 1))),
                      ((multiplied(2, cubic(9)), (2, 1)),), ((cubic(8), (4, 1)),)):
            self.assertIs(is_share_paper((4,) * 9, (terms, cubic(9))), False)
        for free in ((0,) * 10, (0, 1, -1) + (0,) * 7, (-3,) + (-1,) * 9, (1,) + (0,) * 9):
            self.assertIs(is_share_paper((4,) * 9, (((cubic(9), (4, 1)),), free)), False)

    def test_other_papers(self):
        # The sum of all exceptional rows tells equal weights only if the least share is that of the cubic.
        self.assertIs(is_share_paper((1, 1, 1, 1), ((((1, 0, 0, 1, 1), (1, 1)), ((1, 1, 1, 0, 0), (1, 1))),
                                                    (2, 1, 1, 1, 1))), True)
        half = tuple(sorted(((row, (1, 3)) for row in exceptional_rows(4) if row[0] == 1), key=lambda term: term[0]))
        self.assertIs(is_share_paper((1, 1, 1, 1), (half, (2, 1, 1, 1, 1))), True)
        self.assertIs(is_share_paper((1, 1, 1, 1), (half, (10, 5, 5, 5, 5))), True)
        self.assertIs(is_share_paper((1, 1, 1, 1), (half[::-1], (2, 1, 1, 1, 1))), False)
        self.assertIs(is_share_paper((1, 1, 1, 1), (half[:5], (2, 1, 1, 1, 1))), False)
        self.assertIs(is_share_paper((1, 1, 1, 1), (tuple((row, (2, 6)) for row, _ in half), (2, 1, 1, 1, 1))), False)
        self.assertIs(is_share_paper((1, 1, 1, 1), (half, (0,) * 5)), False)
        self.assertIs(is_share_paper((1, 1, 1, 1), (half, (1, 1, 0, 0, 0))), False)
        # Shares with long integers are let.
        p = 10 ** 199 + 1
        longer = tuple((row, (p if row[1] == row[2] else 10 ** 199 - 1, 2 * 10 ** 199)) for row in
                       ((1, 0, 0, 1, 1), (1, 0, 1, 0, 1), (1, 1, 0, 1, 0), (1, 1, 1, 0, 0)))
        told = tuple((row, (share[0] // gcd(*share), share[1] // gcd(*share))) for row, share in longer)
        self.assertIs(judged_paper((1, 1, 1, 1), (told, (2, 1, 1, 1, 1))), True)
        self.assertIs(is_share_paper((1, 1, 1, 1), (told, (2, 1, 1, 1, 1))), True)

    def test_point_rows_in_papers(self):
        terms = (((0, -1, 0, 0), (1, 1)), ((1, 1, 0, 1), (1, 1)), ((1, 1, 1, 0), (1, 1)))
        self.assertIs(judged_paper((1, 1, 1), (terms, (1, 0, 0, 0))), False)
        paper = share_paper((3, 1, 0))
        self.assertEqual(least_share((3, 1, 0)), (3, 1))
        self.assertIs(judged_paper((3, 1, 0), paper), True)

    def test_near(self):
        chance = random.Random(164)
        seen = {True: 0, False: 0}
        for weights in ((1,) * 3, (1,) * 6, (2, 1, 1), (1,) * 9, (3, 1, 0), random_weights(chance, 5)):
            paper = share_paper(weights)
            values = near_values(paper) + [(paper[0], multiplied(2, paper[1])), (list(paper[0]), paper[1]), paper + ()]
            for value in values + wrong_values():
                told = judged_paper(weights, value)
                self.assertIs(is_share_paper(weights, value), told, value)
                seen[told] += 1
        self.assertTrue(seen[True] >= 6 and seen[False] > 500)

    def test_equal_answers(self):
        for call in ALONE:
            self.assertTrue(is_just(call((5, 4, 3, 2, 1)), call((5, 4, 3, 2, 1))))

    def test_free_bars(self):
        chance = random.Random(165)
        for at in range(200):
            n = 3 + at % 7
            weights = random_weights(chance, n)
            found = free_bar(weights)
            self.assertIs(is_free_bar(weights, found), True)
            top, bottom = free_share(weights)
            row = (top,) + tuple(bottom * weight for weight in weights)
            self.assertEqual(product(found, row), 0)
            self.assertTrue(found[0] > 0)
            self.assertTrue(product(found, (top * 2 - 1,) + tuple(2 * bottom * weight for weight in weights)) < 0)
            if n < 9:
                for value in exceptional_rows(n):
                    told = value[0] > 0 and product(value, row) == 0
                    self.assertIs(is_free_bar(weights, value), told)
            for value in near_values(found) + wrong_values() + [cubic(n), multiplied(2, cubic(9)), cubic(8)]:
                told = is_row(value) and len(value) == n + 1 and value[0] > 0 and product(value, row) == 0
                told = told and (value == cubic(9) if n == 9 else is_exceptional(value))
                self.assertIs(is_free_bar(weights, value), told)
        # A point row meets a weight 0 times, but has no degree above 0.
        self.assertIs(is_free_bar((1, 1, 0), (0, 0, 0, -1)), False)
        self.assertIs(is_free_bar((1, 1, 0), (1, 1, 1, 0)), True)
        self.assertIs(is_free_bar((1, 1, 0), (True, 1, 1, 0)), False)


if __name__ == "__main__":
    unittest.main()
