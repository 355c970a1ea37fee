import random
import unittest
from itertools import combinations, product as every

from tests.kit import CIRCLE, caught, refuses, wrong_values
from tests.test_rests import NO_PRIMES
from timesthrough.errors import InvalidNumber, InvalidPoints
from timesthrough.plane import points as module
from timesthrough.plane.forms import count_at
from timesthrough.plane.points import (are_in_line, are_on_conic, are_points, is_let, is_point, line_through,
                                       point_of)

NO_POINTS = wrong_values() + [
    (0, 0, 0), (0, 0, 2), (1, 2, 3), (1, 0, 7), (-1, 0, 1), (0, 1), (0, 0, 1, 1), [0, 0, 1], (True, 0, 1),
    (0, True, 0), (0, 0, True), ("0", 0, 1), (0, None, 1), (0, (0,), 1)]
NO_TUPLES = wrong_values() + [
    (), ((0, 0, 1),), ((0, 0, 1), (1, 0, 1)), ((0, 0, 1), (1, 0, 1), (0, 0, 1)), ((0, 0, 1), (1, 0, 1), (0, 0, 2)),
    ((0, 0, 1), (1, 0, 1), [0, 1, 1]), [(0, 0, 1), (1, 0, 1), (2, 0, 1)], ((0, 0, 1), (1, 0, 1), None),
    ((0, 0, 1), (1, 0, 1), (True, 1, 1))]


def all_points(prime):
    return [point for point in every(range(prime), repeat=3)
            if any(point) and [entry for entry in point if entry][-1] == 1]


def many_points(many):
    return tuple((at, at * at % 101, 1) for at in range(many))


class Points(unittest.TestCase):

    def test_constant(self):
        self.assertEqual(module.MAX_POINTS, 16)

    def test_is_point(self):
        found = [point for point in every(range(-1, 6), repeat=3) if is_point(5, point)]
        self.assertEqual(found, all_points(5))
        self.assertEqual(len(found), 31)
        for wrong in NO_POINTS:
            self.assertIs(is_point(7, wrong), False)
        self.assertIs(is_point(11, (7, 10, 1)), True)

    def test_are_points(self):
        for many in range(0, 20):
            self.assertIs(are_points(101, many_points(many)), 3 <= many <= 16, many)
        for wrong in NO_TUPLES:
            self.assertIs(are_points(7, wrong), False)
        self.assertIs(are_points(7, ((1, 0, 0), (0, 1, 0), (0, 0, 1))), True)

    def test_point_of(self):
        for triple in every(range(-3, 9), repeat=3):
            rests = [entry % 5 for entry in triple]
            if any(rests):
                point = point_of(5, triple)
                self.assertIs(is_point(5, point), True)
                multiples = [tuple(factor * entry % 5 for entry in point) for factor in range(1, 5)]
                self.assertIn(tuple(rests), multiples)
            else:
                self.assertEqual(caught(self, InvalidPoints, point_of, 5, triple).args, (triple,))
        great = (10 ** 200 - 1, -10 ** 200 + 1, 10 ** 199)
        self.assertEqual(point_of(7, great), point_of(7, tuple(entry % 7 for entry in great)))

    def test_point_of_wrong(self):
        wrongs = wrong_values() + [(1, 2), (1, 2, 3, 4), [1, 2, 3], (1, 2, True), (10 ** 200, 0, 1), (1, None, 0)]
        refuses(self, point_of, (7, (1, 2, 3)), 0, InvalidNumber, NO_PRIMES)
        refuses(self, point_of, (7, (1, 2, 3)), 1, InvalidPoints, wrongs)
        for wrong in wrongs:
            self.assertIs(caught(self, InvalidPoints, point_of, 7, wrong).args[0], wrong)

    def test_line_through(self):
        for one, other in combinations(all_points(5), 2):
            line = line_through(5, one, other)
            self.assertIs(is_point(5, line), True)
            self.assertEqual(line_through(5, other, one), line)
            for point in (one, other):
                self.assertEqual(sum(a * b for a, b in zip(line, point)) % 5, 0)

    def test_line_through_wrong(self):
        good = (7, (0, 0, 1), (1, 0, 1))
        refuses(self, line_through, good, 0, InvalidNumber, NO_PRIMES + wrong_values())
        refuses(self, line_through, good, 1, InvalidPoints, NO_POINTS)
        refuses(self, line_through, good, 2, InvalidPoints, NO_POINTS + [(0, 0, 1)])

    def test_in_line(self):
        line = ((0, 1, 1), (1, 3, 1), (2, 5, 1), (4, 1, 0))
        self.assertIs(are_in_line(7, line), True)
        self.assertIs(are_in_line(7, line + ((0, 0, 1),)), False)
        for three in combinations(all_points(5), 3):
            lined = any(all(sum(a * b for a, b in zip(line, point)) % 5 == 0 for point in three)
                        for line in (line_through(5, three[0], three[1]),))
            self.assertIs(are_in_line(5, three), lined)

    def test_on_conic(self):
        self.assertIs(are_on_conic(101, CIRCLE), True)
        self.assertIs(are_on_conic(101, CIRCLE[:5] + ((5, 24, 1),)), False)
        self.assertIs(are_on_conic(101, many_points(16)), True)
        self.assertIs(are_on_conic(101, many_points(15) + ((0, 1, 0),)), True)
        self.assertIs(are_on_conic(101, many_points(15) + ((1, 0, 0),)), False)
        lines = ((0, 1, 0), (0, 2, 1), (0, 3, 1), (1, 0, 0), (2, 0, 1), (3, 0, 1), (0, 0, 1))
        self.assertIs(are_on_conic(101, lines), True)
        self.assertIs(are_on_conic(101, lines + ((1, 1, 1),)), False)
        chance = random.Random(4)
        seen = {True: 0, False: 0}
        for prime in (5, 5, 5, 7) * 60:
            some = tuple(chance.sample(all_points(prime), chance.randint(5, 8)))
            told = count_at(prime, some, (2,) + (1,) * len(some)) > 0
            self.assertIs(are_on_conic(prime, some), told)
            seen[told] += 1
        self.assertTrue(min(seen.values()) > 20)
        for _ in range(50):
            self.assertIs(are_on_conic(5, tuple(chance.sample(all_points(5), chance.randint(3, 5)))), True)

    def test_is_let(self):
        self.assertIs(is_let(101, CIRCLE), True)
        self.assertIs(is_let(101, many_points(6) + ((1, 0, 0), (1, 0, 1))), True)
        self.assertIs(is_let(101, many_points(7)), False)
        self.assertIs(is_let(101, ((1, 0, 0), (0, 1, 0), (1, 1, 0))), True)
        self.assertIs(is_let(101, ((1, 0, 0), (0, 0, 1), (0, 1, 0), (1, 1, 0), (2, 1, 0))), False)
        nine = ((1, 0, 0), (0, 1, 0), (0, 0, 1), (1, 1, 1), (2, 7, 1), (5, 3, 1), (19, 4, 1), (8, 55, 1), (31, 77, 1))
        self.assertEqual([is_let(101, nine[:many]) for many in range(3, 10)], [True] * 6 + [False])

    def test_let_by_lines_and_conics(self):
        chance = random.Random(5)
        seen = {True: 0, False: 0}
        points = all_points(7)
        for _ in range(150):
            some = tuple(chance.sample(points, chance.randint(4, 8)))
            told = not any(are_in_line(7, four) for four in combinations(some, 4))
            told = told and not any(are_on_conic(7, seven) for seven in combinations(some, 7))
            self.assertIs(is_let(7, some), told)
            seen[told] += 1
        self.assertTrue(min(seen.values()) > 10)

    def test_wrong(self):
        good = (101, CIRCLE)
        for call in (are_in_line, are_on_conic, is_let):
            refuses(self, call, good, 0, InvalidNumber, NO_PRIMES + wrong_values())
            refuses(self, call, good, 1, InvalidPoints, NO_TUPLES + [many_points(17), many_points(2)])
        for call in (is_point, are_points):
            refuses(self, call, good, 0, InvalidNumber, NO_PRIMES + wrong_values())


if __name__ == "__main__":
    unittest.main()
