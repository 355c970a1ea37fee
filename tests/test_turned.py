import random
import unittest
from itertools import combinations

from tests.kit import CIRCLE, GENERAL, PRIME, caught, refuses, too_many, wrong_values
from tests.test_points import NO_TUPLES, all_points, many_points
from tests.test_rests import NO_PRIMES
from timesthrough.change.moved import turned_form, turned_points
from timesthrough.errors import InvalidForm, InvalidNumber, InvalidPoints, Refused, TooMany
from timesthrough.plane.forms import Form, count_at, curves
from timesthrough.plane.points import are_in_line, are_points, line_through
from timesthrough.rows.moves import moved

UNITS = ((1, 0, 0), (0, 1, 0), (0, 0, 1))
NO_INDICES = wrong_values() + [-1, "0", (0,), [1]]


def reason(prime, points, i, j, k):
    """Why the points are refused, as the document says it, or None."""
    if are_in_line(prime, (points[i], points[j], points[k])):
        return ("line", i, j, k)
    for at, point in enumerate(points):
        if at not in (i, j, k):
            for one, other in combinations((i, j, k), 2):
                if are_in_line(prime, (points[one], points[other], point)):
                    return ("near", at)
    return None


def random_points(chance, prime, many, i, j, k):
    """Points of which none is refused."""
    while True:
        if prime < 20:
            points = tuple(chance.sample(all_points(prime), many))
        else:
            points = tuple((chance.randrange(prime), chance.randrange(prime), 1) for _ in range(many))
        if are_points(prime, points) and reason(prime, points, i, j, k) is None:
            return points


def random_form(chance, prime, degree):
    exponents = [(p, q, degree - p - q) for p in range(degree + 1) for q in range(degree + 1 - p)]
    some = chance.sample(exponents, chance.randint(1, len(exponents)))
    return Form(prime, degree, {exponent: chance.randrange(1, prime) for exponent in some})


def powers(factor, times):
    """The form so many times, 1 for none."""
    found = Form(factor.prime, 0, {(0, 0, 0): 1})
    for _ in range(times):
        found = found * factor
    return found


def spot(prime, points, i, j, k, factors):
    """The point with the factors x, y, z of three points, and the one with y z, x z, x y."""
    x, y, z = factors
    old = tuple(sum(part) % prime for part in zip(*[[factor * entry for entry in points[at]]
                                                    for factor, at in zip(factors, (i, j, k))]))
    return old, (y * z % prime, x * z % prime, x * y % prime)


def value_at(form, triple):
    return sum(rest * pow(triple[0], p, form.prime) * pow(triple[1], q, form.prime) * pow(triple[2], r, form.prime)
               for (p, q, r), rest in form.terms.items()) % form.prime


class TurnedPoints(unittest.TestCase):

    def test_told(self):
        self.assertEqual(turned_points(7, UNITS, 0, 1, 2), UNITS)
        points = ((1, 1, 1), (1, 0, 0), (2, 3, 1), (0, 1, 0), (0, 0, 1))
        # 1/1, 1/1, 1/1 and 1/2, 1/3, 1/1 modulo 7.
        self.assertEqual(turned_points(7, points, 1, 3, 4), ((1, 1, 1), (1, 0, 0), (4, 5, 1), (0, 1, 0), (0, 0, 1)))

    def test_turned_points(self):
        chance = random.Random(121)
        for prime in (7, 11, 13, 101, 65521):
            for _ in range(30):
                n = chance.randint(3, 6 if prime < 20 else 16)
                i, j, k = sorted(chance.sample(range(n), 3))
                points = random_points(chance, prime, n, i, j, k)
                found = turned_points(prime, points, i, j, k)
                self.assertIs(are_points(prime, found), True)
                self.assertEqual((len(found), found[i], found[j], found[k]), (n,) + UNITS)
                for at, point in enumerate(points):
                    if at not in (i, j, k):
                        # The factors are the ones over those of the new point.
                        a, b, c = found[at]
                        old, _ = spot(prime, points, i, j, k, (b * c, a * c, a * b))
                        scale = next(factor for factor in [pow(entry, -1, prime) for entry in old[::-1] if entry])
                        self.assertEqual(tuple(entry * scale % prime for entry in old), point)

    def test_twice(self):
        chance = random.Random(122)
        for prime in (7, 101, 65521):
            for _ in range(20):
                n = chance.randint(3, 6)
                points = random_points(chance, prime, n, 0, 1, 2)
                once = turned_points(prime, points, 0, 1, 2)
                twice = turned_points(prime, once, 0, 1, 2)
                self.assertEqual(twice[:3], UNITS)
                self.assertEqual(turned_points(prime, twice, 0, 1, 2), once)

    def test_counts(self):
        chance = random.Random(123)
        for prime in (5, 7, 31, 65521):
            for _ in range(25):
                n = chance.randint(3, 4 if prime == 5 else 5 if prime == 7 else 9)
                i, j, k = sorted(chance.sample(range(n), 3))
                points = random_points(chance, prime, n, i, j, k)
                there = turned_points(prime, points, i, j, k)
                row = (chance.randint(0, 6),) + tuple(chance.randint(-1, 3) for _ in range(n))
                other = moved(row, (("turn", i, j, k),))
                if other[0] <= 16 and sum(number * (number + 1) // 2 for number in other[1:] if number > 0) <= 200:
                    self.assertEqual(count_at(prime, points, row), count_at(prime, there, other), (points, row))

    def test_refused(self):
        chance = random.Random(124)
        seen = {"line": 0, "near": 0, None: 0}
        for _ in range(300):
            n = chance.randint(3, 6)
            points = tuple(chance.sample(all_points(5), n))
            i, j, k = sorted(chance.sample(range(n), 3))
            told = reason(5, points, i, j, k)
            seen[told and told[0]] += 1
            if told is None:
                self.assertEqual(len(turned_points(5, points, i, j, k)), n)
            else:
                self.assertEqual(caught(self, Refused, turned_points, 5, points, i, j, k).reason, told)
                self.assertEqual(caught(self, Refused, turned_form, 5, points, i, j, k, Form(5, 0, {(0, 0, 0): 1})).reason, told)
        self.assertTrue(min(seen.values()) > 20)

    def test_wrong(self):
        good = (101, CIRCLE, 0, 2, 5)
        for call, args in ((turned_points, good), (turned_form, good + (Form(101, 0, {(0, 0, 0): 1}),))):
            refuses(self, call, args, 0, InvalidNumber, NO_PRIMES + wrong_values())
            refuses(self, call, args, 1, InvalidPoints, NO_TUPLES + [many_points(2), many_points(17)])
            refuses(self, call, args, 2, InvalidNumber, NO_INDICES + [6, 16])
            refuses(self, call, args, 3, InvalidNumber, NO_INDICES + [6, 0])
            refuses(self, call, args, 4, InvalidNumber, NO_INDICES + [6, 2, 1, 0])
            for i, j, k, given in ((2, 1, 0, 1), (0, 0, 0, 0), (0, 2, 1, 1), (5, 6, 7, 6), (6, 6, 6, 6), (0, 1, 1, 1)):
                self.assertEqual(caught(self, InvalidNumber, call, 101, CIRCLE, i, j, k, *args[5:]).given, given)


class TurnedForms(unittest.TestCase):

    def test_told(self):
        # The line through the other two points becomes the conic through all five.
        points = UNITS + ((1, 1, 1), (2, 3, 1))
        line = curves(7, points, (1, 0, 0, 0, 1, 1))[0]
        there = turned_points(7, points, 0, 1, 2)
        found = turned_form(7, points, 0, 1, 2, line)
        self.assertEqual(found.degree, 2)
        self.assertEqual([found.times_at(point) for point in there], [1] * 5)
        self.assertEqual(turned_form(7, there, 0, 1, 2, found), line)
        one = Form(7, 0, {(0, 0, 0): 3})
        self.assertEqual(turned_form(7, points, 0, 1, 2, one), one)
        # The line x = 0 through two of the points becomes a constant.
        self.assertEqual(turned_form(7, UNITS, 0, 1, 2, Form(7, 1, {(1, 0, 0): 5})), Form(7, 0, {(0, 0, 0): 5}))
        self.assertEqual(turned_form(7, UNITS, 0, 1, 2, Form(7, 1, {(1, 0, 0): 5, (0, 1, 0): 2})),
                         Form(7, 1, {(0, 1, 0): 5, (1, 0, 0): 2}))

    def judge(self, prime, points, i, j, k, form):
        """The form that comes out, or None for TooMany."""
        a, b, c = [form.times_at(points[at]) for at in (i, j, k)]
        d = form.degree
        if 2 * d - a - b - c > 16:
            too_many(self, 16, turned_form, prime, points, i, j, k, form)
            return None
        found = turned_form(prime, points, i, j, k, form)
        there = turned_points(prime, points, i, j, k)
        self.assertIs(found.__class__, Form)
        self.assertEqual((found.prime, found.degree), (prime, 2 * d - a - b - c))
        for at, point in enumerate(points):
            if at not in (i, j, k):
                self.assertEqual(found.times_at(there[at]), form.times_at(point))
        for at, least in ((i, d - b - c), (j, d - a - c), (k, d - a - b)):
            self.assertTrue(found.times_at(there[at]) >= least)
        for x, y, z in ((1, 1, 1), (2, 3, 4), (prime - 1, 2, 5), (1, 4, 2)):
            # With x, y, z other than 0 both values differ by powers of these alone.
            old, new = spot(prime, points, i, j, k, (x, y, z))
            told = value_at(form, old) * pow(x, d - b - c, prime) * pow(y, d - a - c, prime) * pow(z, d - a - b, prime)
            self.assertEqual(value_at(found, new), told % prime)
        return found

    def test_turned_forms(self):
        chance = random.Random(125)
        many = {True: 0, False: 0}
        for prime in (7, 101, 65521):
            for _ in range(40):
                n = chance.randint(3, 6)
                i, j, k = sorted(chance.sample(range(n), 3))
                points = random_points(chance, prime, n, i, j, k)
                form = random_form(chance, prime, chance.choice((0, 1, 2, 3, 4, 5, 8)))
                row = (form.degree,) + tuple(chance.choice((0, 0, 1, 2)) for _ in range(n))
                some = curves(prime, points, row)
                form = chance.choice(some) if some and chance.random() < 0.7 else form
                many[self.judge(prime, points, i, j, k, form) is not None] += 1
        self.assertTrue(many[True] > 80)

    def test_there_and_back(self):
        chance = random.Random(126)
        for prime in (7, 101, 65521):
            for _ in range(15):
                n = chance.randint(3, 6)
                points = random_points(chance, prime, n, 0, 1, 2)
                points = turned_points(prime, points, 0, 1, 2)
                self.assertEqual(points[:3], UNITS)
                lines = [Form(prime, 1, {unit: 1}) for unit in UNITS]
                bare = random_form(chance, prime, chance.randint(0, 3))
                bare = turned_form(prime, points, 0, 1, 2, turned_form(prime, points, 0, 1, 2, bare))
                # The bare form has none of the three lines as a factor.
                self.assertEqual(turned_form(prime, points, 0, 1, 2, turned_form(prime, points, 0, 1, 2, bare)), bare)
                self.assertTrue(all(min(exponents[at] for exponents in bare.terms) == 0 for at in range(3)))
                form = bare * powers(lines[0], chance.randint(0, 2)) * powers(lines[1], chance.randint(0, 1))
                form = form * powers(lines[2], chance.randint(0, 2))
                there = turned_form(prime, points, 0, 1, 2, form)
                self.assertEqual(turned_form(prime, turned_points(prime, points, 0, 1, 2), 0, 1, 2, there), bare)

    def test_great_degrees(self):
        chance = random.Random(127)
        for degree in (8, 9, 16):
            form = Form(PRIME, degree, {(p, q, degree - p - q): chance.randrange(1, PRIME)
                                        for p in range(degree + 1) for q in range(degree + 1 - p)})
            self.assertIs(self.judge(PRIME, GENERAL[3:6], 0, 1, 2, form) is None, degree > 8)
        # These forms pass often enough through the points.
        for row in ((16, 8, 8, 0), (12, 4, 4, 0), (12, 4, 4, 1), (11, 4, 2, 0), (11, 3, 2, 0), (16, 7, 7, 1)):
            form = curves(PRIME, GENERAL[3:6], row)[0]
            self.judge(PRIME, GENERAL[3:6], 0, 1, 2, form)
        line = curves(PRIME, GENERAL[3:6], (1, 1, 1, 0))[0]
        self.assertEqual(turned_form(PRIME, GENERAL[3:6], 0, 1, 2, powers(line, 16)).degree, 0)

    def test_wrong(self):
        good = (101, CIRCLE, 0, 2, 5, Form(101, 1, {(1, 0, 0): 1}))
        no_forms = wrong_values() + [Form(101, 2, {}), Form(101, 0, {}), Form(103, 1, {(1, 0, 0): 1}), {(1, 0, 0): 1}]
        refuses(self, turned_form, good, 5, InvalidForm, no_forms)
        # InvalidForm comes ahead of Refused, and TooMany behind it.
        in_line = ((0, 0, 1), (1, 0, 1), (2, 0, 1), (0, 1, 1))
        refuses(self, turned_form, (101, in_line, 0, 1, 2, good[5]), 5, InvalidForm, no_forms)
        refuses(self, turned_form, (101, in_line, 0, 1, 3, good[5]), 5, InvalidForm, no_forms)
        great = Form(101, 16, {(16, 0, 0): 1, (0, 16, 0): 1, (0, 0, 16): 1})
        self.assertEqual(caught(self, Refused, turned_form, 101, in_line, 0, 1, 2, great).reason, ("line", 0, 1, 2))
        self.assertEqual(caught(self, Refused, turned_form, 101, in_line, 0, 1, 3, great).reason, ("near", 2))
        self.assertEqual(caught(self, TooMany, turned_form, 101, CIRCLE, 0, 1, 2, great).limit, 16)
        caught(self, InvalidNumber, turned_form, 101, in_line, 0, 1, 1, None)
        self.assertEqual(line_through(101, (0, 0, 1), (1, 0, 1)), (0, 1, 0))


if __name__ == "__main__":
    unittest.main()
