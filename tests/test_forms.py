import random
import unittest
from itertools import product as every

from tests.kit import CIRCLE, FIVE, FOUR, GENERAL, PRIME, caught, refuses, too_many, wrong_values
from tests.test_points import NO_POINTS, NO_TUPLES, all_points, many_points
from tests.test_rests import NO_PRIMES
from tests.test_rows import NO_ROWS
from timesthrough.base.rests import is_table, kernel
from timesthrough.errors import InvalidForm, InvalidNumber, InvalidPoints, InvalidRow
from timesthrough.plane import forms as module
from timesthrough.plane.forms import Form, conditions, count_at, curves
from timesthrough.rows.rows import conditions_of, terms_of

NO_TERMS = [wrong for wrong in wrong_values() if wrong != {}] + [
    {(1, 0): 1}, {(1, 1, 0, 0): 1}, {(1, 0, 0): 1}, {(3, -1, 0): 1}, {(1, 1, 1): 1}, {(2, 1, -1): 1}, {(-1, 2, 1): 1}, {(2, 0, 0): 0},
    {(2, 0, 0): 7}, {(2, 0, 0): -1}, {(2, 0, 0): True}, {(2, 0, 0): None}, {(True, True, 0): 1}, {"200": 1},
    {(2, 0, 0): 1, (1, 0, 0): 1}, {(2, 0, 0): 1, (0, 2, 0): "1"}, {2: 1}, {None: 1}, [((2, 0, 0), 1)],
    {(2, False, 0): 1}, {(2, None, 0): 1}, {("2", 0, 0): 1}, {((2, 0), 0, 0): 1}, {(2, 0, 0): [1]}]


def exponents(degree):
    return [some for some in every(range(degree + 1), repeat=3) if sum(some) == degree]


def random_form(chance, prime, degree, share=0.6):
    return Form(prime, degree, {some: chance.randrange(1, prime) for some in exponents(degree)
                                if chance.random() < share})


def linear(prime, *entries):
    units = ((1, 0, 0), (0, 1, 0), (0, 0, 1))
    return Form(prime, 1, {unit: entry for unit, entry in zip(units, entries) if entry})


def value_at(form, point):
    found = sum(rest * point[0] ** i * point[1] ** j * point[2] ** k for (i, j, k), rest in form.terms.items())
    return found % form.prime


def times_by(form, point, chosen):
    """[2.3] by plain multiplication of the linear forms that are put in."""
    prime = form.prime
    inverse = pow(point[chosen], -1, prime)
    others = [at for at in range(3) if at != chosen]
    left = {}
    for exponent, rest in form.terms.items():
        part = {(0, 0): rest}
        for side, at in enumerate(others):
            for _ in range(exponent[at]):
                longer = {}
                for key, worth in part.items():
                    up = (key[0] + 1, key[1]) if side == 0 else (key[0], key[1] + 1)
                    longer[up] = (longer.get(up, 0) + worth) % prime
                    longer[key] = (longer.get(key, 0) + worth * point[at] * inverse) % prime
                part = longer
        for key, worth in part.items():
            left[key] = (left.get(key, 0) + worth) % prime
    return min((sum(key) for key, worth in left.items() if worth), default=None)


def coefficients(form):
    return tuple(form.terms.get(some, 0) for some in exponents(form.degree))


class Forms(unittest.TestCase):

    def test_constants(self):
        self.assertEqual((module.MAX_DEGREE, module.MAX_CONDITIONS), (16, 200))

    def test_properties(self):
        terms = {(2, 0, 0): 3, (0, 1, 1): 6, (0, 0, 2): 1}
        form = Form(7, 2, terms)
        self.assertEqual((form.prime, form.degree, form.terms), (7, 2, terms))
        self.assertEqual(list(form.terms), [(0, 0, 2), (0, 1, 1), (2, 0, 0)])
        self.assertEqual(str(form), "form of degree 2 with 3 terms modulo 7")
        self.assertEqual(str(Form(11, 5, {})), "form of degree 5 with 0 terms modulo 11")
        self.assertEqual(str(Form(11, 0, {(0, 0, 0): 2})), "form of degree 0 with 1 terms modulo 11")
        self.assertEqual((len(form), bool(form), len(Form(7, 2, {}))), (3, True, 0))
        self.assertIs(bool(Form(7, 2, {})), False)

    def test_shares_nothing(self):
        terms = {(1, 0, 0): 3}
        form = Form(7, 1, terms)
        terms[(0, 1, 0)] = 1
        form.terms[(0, 0, 1)] = 1
        form.terms.clear()
        self.assertEqual(form.terms, {(1, 0, 0): 3})
        for name in ("prime", "degree", "terms"):
            with self.assertRaises(AttributeError):
                setattr(form, name, 5)

    def test_equality(self):
        form = Form(7, 2, {(2, 0, 0): 3, (0, 1, 1): 6})
        self.assertTrue(form == Form(7, 2, {(0, 1, 1): 6, (2, 0, 0): 3}))
        self.assertFalse(form != Form(7, 2, {(0, 1, 1): 6, (2, 0, 0): 3}))
        for other in [Form(11, 2, form.terms), Form(7, 2, {}), Form(7, 2, {(2, 0, 0): 3}), -form] + wrong_values():
            self.assertIs(form == other, False)
            self.assertIs(form != other, True)
        self.assertNotEqual(Form(7, 2, {}), Form(7, 3, {}))
        self.assertNotEqual(Form(7, 2, {}), Form(5, 2, {}))
        self.assertIn(form, [None, "a", Form(7, 2, {(0, 1, 1): 6, (2, 0, 0): 3})])

    def test_no_iteration(self):
        with self.assertRaises(TypeError):
            iter(Form(7, 1, {(1, 0, 0): 1}))

    def test_wrong(self):
        good = (7, 2, {(2, 0, 0): 1})
        refuses(self, Form, good, 0, InvalidNumber, NO_PRIMES + wrong_values())
        refuses(self, Form, good, 1, InvalidNumber, wrong_values() + [-1, 17, 10 ** 30, "2", (2,)])
        refuses(self, Form, good, 2, InvalidForm, NO_TERMS)
        self.assertEqual(Form(7, 16, {(16, 0, 0): 6}).degree, 16)
        self.assertEqual(Form(7, 0, {}).terms, {})

    def test_at(self):
        chance = random.Random(8)
        for _ in range(60):
            prime = chance.choice((5, 7, 65521))
            form = random_form(chance, prime, chance.choice((0, 1, 2, 3, 5, 16)))
            point = chance.choice(((1, 0, 0), (3, 1, 0), (0, 1, 0), (2, 4, 1), (0, 0, 1)))
            self.assertEqual(form.at(point), value_at(form, point))

    def test_points_wrong(self):
        form = Form(7, 1, {(1, 0, 0): 1})
        refuses(self, form.at, ((0, 0, 1),), 0, InvalidPoints, NO_POINTS)
        refuses(self, form.times_at, ((0, 0, 1),), 0, InvalidPoints, NO_POINTS)
        refuses(self, Form(7, 1, {}).times_at, ((0, 0, 1),), 0, InvalidPoints, NO_POINTS)

    def test_times_at(self):
        x, y = linear(7, 1, 0, 0), linear(7, 0, 1, 0)
        self.assertEqual([(x * x * y).times_at(point) for point in ((0, 0, 1), (0, 1, 0), (1, 0, 0), (1, 1, 1))],
                         [3, 2, 1, 0])
        self.assertIsNone(Form(7, 3, {}).times_at((0, 0, 1)))
        self.assertEqual(Form(7, 0, {(0, 0, 0): 3}).times_at((0, 0, 1)), 0)
        power = x
        for many in range(2, 17):
            power = power * x
            self.assertEqual(power.times_at((0, 2, 1)), many)

    def test_times_by_any_unknown(self):
        chance = random.Random(9)
        seen = set()
        for _ in range(150):
            prime = chance.choice((5, 7, 11))
            point = chance.choice(all_points(prime))
            form = random_form(chance, prime, chance.randint(0, 3))
            for _ in range(chance.randint(0, 3)):
                other = chance.choice([some for some in all_points(prime) if some != point])
                crossed = (point[1] * other[2] - point[2] * other[1], point[2] * other[0] - point[0] * other[2],
                           point[0] * other[1] - point[1] * other[0])
                form = form * linear(prime, *(entry % prime for entry in crossed))
            for chosen in range(3):
                if point[chosen]:
                    self.assertEqual(form.times_at(point), times_by(form, point, chosen))
            seen.add(form.times_at(point))
            self.assertEqual(form.times_at(point) != 0, form.at(point) == 0)
        self.assertTrue({0, 1, 2, 3, None} <= seen)

    def test_operators(self):
        chance = random.Random(10)
        for _ in range(60):
            prime = chance.choice((5, 7, 101))
            degree = chance.randint(0, 4)
            one, other = random_form(chance, prime, degree), random_form(chance, prime, degree)
            third = random_form(chance, prime, chance.randint(0, 5))
            self.assertEqual((one + other) - other, one)
            self.assertEqual(one - other, one + (-other))
            self.assertEqual(-(-one), one)
            self.assertEqual(one - one, Form(prime, degree, {}))
            self.assertEqual((one + other) * third, third * one + third * other)
            for point in ((1, 0, 0), (2, 1, 0), (3, 4, 1)):
                self.assertEqual((one + other).at(point), (one.at(point) + other.at(point)) % prime)
                self.assertEqual((one * third).at(point), one.at(point) * third.at(point) % prime)
                self.assertEqual((-one).at(point), -one.at(point) % prime)
                if one and third:
                    self.assertEqual((one * third).times_at(point), one.times_at(point) + third.times_at(point))
            self.assertFalse(0 in (one * third).terms.values())
            self.assertEqual(list((one * third).terms), sorted((one * third).terms))
        self.assertEqual(linear(7, 1, 6, 0) * linear(7, 1, 1, 0), Form(7, 2, {(2, 0, 0): 1, (0, 2, 0): 6}))

    def test_operators_wrong(self):
        form = Form(7, 2, {(2, 0, 0): 1})
        for other in (Form(11, 2, {(2, 0, 0): 1}), Form(7, 3, {}), Form(11, 3, {})):
            caught(self, InvalidForm, lambda: form + other)
            caught(self, InvalidForm, lambda: form - other)
        caught(self, InvalidForm, lambda: form * Form(11, 2, {}))
        caught(self, InvalidForm, lambda: form * Form(11, 16, {}))
        self.assertEqual((form * Form(7, 14, {})).degree, 16)
        too_many(self, 16, lambda: form * Form(7, 15, {}))
        for other in wrong_values():
            if not isinstance(other, Form):
                for call in (lambda: form + other, lambda: form - other, lambda: form * other, lambda: other + form,
                             lambda: other - form, lambda: other * form):
                    with self.assertRaises(TypeError):
                        call()
        self.assertEqual(form, Form(7, 2, {(2, 0, 0): 1}))


class Counts(unittest.TestCase):

    def test_printed(self):
        self.assertEqual([count_at(101, CIRCLE, FIVE), count_at(101, CIRCLE, FOUR)], [1, 1])
        self.assertEqual(curves(101, CIRCLE, FIVE), (Form(101, 2, {(0, 1, 1): 1, (2, 0, 0): 100}),))

    def test_conditions_tell_who_passes(self):
        chance = random.Random(11)
        points = ((1, 0, 0), (3, 1, 0), (2, 4, 1))
        seen = {True: 0, False: 0}
        for _ in range(250):
            degree = chance.randint(0, 4)
            row = (degree,) + tuple(chance.choice((-1, 0, 1, 1, 2)) for _ in points)
            table = conditions(5, points, row)
            self.assertTrue(is_table(5, table) and len(table) >= 1 and len(table[0]) == terms_of(row))
            form = random_form(chance, 5, degree, 0.5)
            for _ in range(3):
                if chance.random() < 0.6 and degree > 0:
                    found = curves(5, points, row)
                    form = chance.choice(found) if found else form
            sums = [sum(a * b for a, b in zip(line, coefficients(form))) % 5 for line in table]
            passes = not form or all(form.times_at(point) >= number for point, number in zip(points, row[1:]))
            self.assertIs(not any(sums), passes)
            seen[passes] += 1
        self.assertTrue(min(seen.values()) > 30)

    def test_curves_are_the_kernel(self):
        chance = random.Random(12)
        for _ in range(40):
            prime = chance.choice((5, 7, 101))
            points = tuple(chance.sample(all_points(7), 4)) if prime == 7 else ((1, 0, 0), (3, 1, 0), (2, 4, 1), (0, 0, 1))
            row = (chance.randint(0, 5),) + tuple(chance.choice((-1, 0, 1, 2, 3)) for _ in points)
            found = curves(prime, points, row)
            self.assertEqual(tuple(coefficients(form) for form in found), kernel(prime, conditions(prime, points, row)))
            self.assertEqual(len(found), count_at(prime, points, row))
            self.assertTrue(len(found) >= terms_of(row) - conditions_of(row))
            for form in found:
                self.assertEqual((form.prime, form.degree), (prime, row[0]))
                for point, number in zip(points, row[1:]):
                    self.assertTrue(form.times_at(point) >= number)

    def test_count_by_all_forms(self):
        points = ((1, 0, 0), (3, 1, 0), (2, 4, 1), (0, 0, 1))
        for row in ((1, 1, 0, 0, 0), (1, 1, 1, 0, 0), (1, 1, 0, 0, 1), (2, 2, 1, 1, 0), (2, 1, 1, 1, 1), (2, 2, 2, 0, 0)):
            many = 0
            for rests in every(range(5), repeat=terms_of(row)):
                form = Form(5, row[0], {some: rest for some, rest in zip(exponents(row[0]), rests) if rest})
                many += not form or all(form.times_at(point) >= number for point, number in zip(points, row[1:]))
            self.assertEqual(many, 5 ** count_at(5, points, row), row)

    def test_degrees_below(self):
        for degree in (-1, -2, -3, -10 ** 199):
            row = (degree, 2, 0, -1, 1, 0, 0)
            self.assertEqual([conditions(101, CIRCLE, row), curves(101, CIRCLE, row), count_at(101, CIRCLE, row)],
                             [(), (), 0])

    def test_asks_nothing(self):
        row = (2, 0, -3, -10 ** 199, 0, 0, -1)
        table = conditions(101, CIRCLE, row)
        self.assertTrue(len(table) >= 1 and not any(any(line) for line in table))
        self.assertEqual(count_at(101, CIRCLE, row), 6)
        self.assertEqual([form.terms for form in curves(101, CIRCLE, row)], [{some: 1} for some in exponents(2)])
        self.assertEqual(count_at(101, CIRCLE, (0, 0, 0, 0, 0, 0, 0)), 1)
        self.assertEqual(count_at(101, CIRCLE, (0, 0, 1, 0, 0, 0, 0)), 0)

    def test_edges(self):
        calls = (conditions, curves, count_at)
        three, many = CIRCLE[:3], many_points(16)
        for call in calls:
            call(101, three, (16, 19, 4, 0))
            too_many(self, 16, call, 101, three, (17, 0, 0, 0))
            too_many(self, 16, call, 101, three, (10 ** 199, 10 ** 199, 0, 0))
            too_many(self, 200, call, 101, three, (16, 19, 4, 1))
            too_many(self, 200, call, 101, three, (-1, 20, 0, 0))
            too_many(self, 200, call, 101, three, (0, 10 ** 199, -10 ** 199, 0))
            call(101, many, (3,) + (1,) * 16)
        self.assertEqual(conditions_of((16, 19, 4, 0)), 200)
        self.assertEqual(len(conditions(101, three, (16, 19, 4, 0))[0]), 153)
        self.assertEqual(count_at(101, three, (16, 19, 4, 0)), 0)
        self.assertEqual(count_at(101, three, (16, 16, 4, 0)), 17 - 4)

    def test_wrong(self):
        good = (101, CIRCLE, FIVE)
        for call in (conditions, curves, count_at):
            refuses(self, call, good, 0, InvalidNumber, NO_PRIMES + wrong_values())
            refuses(self, call, good, 1, InvalidPoints, NO_TUPLES + [many_points(2), many_points(17)])
            refuses(self, call, good, 2, InvalidRow, NO_ROWS + [(17, 1, 1, 1), (17,) + (20,) * 7])

    def test_general_points(self):
        self.assertEqual(count_at(PRIME, GENERAL, (3,) + (1,) * 9), 1)
        self.assertEqual(count_at(PRIME, GENERAL, (6,) + (2,) * 9), 1)
        self.assertEqual(count_at(PRIME, GENERAL[:8], (6, 3) + (2,) * 7), 1)


if __name__ == "__main__":
    unittest.main()
