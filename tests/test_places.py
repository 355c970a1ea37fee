import random
import unittest
from itertools import combinations

from tests.kit import CIRCLE, FIVE, GENERAL, PRIME, caught, refuses, wrong_values
from timesthrough.errors import InvalidNumber, InvalidPoints, InvalidRow, Refused
from timesthrough.mirrors.diagrams import kinds_of
from timesthrough.place.places import Place
from timesthrough.plane.forms import Form, count_at
from timesthrough.plane.points import are_on_conic, is_let
from timesthrough.rows.exceptional import exceptional_rows
from timesthrough.rows.rows import added, cubic, multiplied, point_row, product, with_cubic

CROSS = ((1, 0, 0), (0, 1, 0), (0, 0, 1), (1, 1, 1), (1, 1, 0))
CORNERS = ((1, 0, 0), (0, 1, 0), (0, 0, 1), (0, 100, 1), (100, 0, 1), (100, 1, 0))
# Three lines through the first one of seven points, and the three sides of a triangle.
STAR = ((0, 0, 1), (1, 0, 1), (3, 0, 1), (0, 1, 1), (0, 4, 1), (1, 1, 1), (5, 5, 1))
SIDES = ((0, 0, 1), (1, 0, 1), (0, 1, 1), (3, 0, 1), (0, 5, 1), (4, 98, 1), (23, 71, 1))
NO_POINTS = wrong_values() + [
    ((0, 0, 1), (0, 1, 0)), ((0, 0, 1), (0, 1, 0), (0, 1, 0)), ((0, 0, 1), (0, 1, 0), (2, 0, 0)), [(0, 0, 1)] * 3,
    ((0, 0, 1), (0, 1, 0), (True, 0, 0)), ((0, 0, 1), (0, 1, 0), [1, 0, 0]), ((0, 0, 1), (0, 1, 0), (0, 0, 0))]


def every_point(prime):
    return [(x, y, 1) for x in range(prime) for y in range(prime)] + [(x, 1, 0) for x in range(prime)] + [(1, 0, 0)]


def random_points(chance, prime, n):
    """Points among which lines of three and conics of six are frequent."""
    return tuple(chance.sample(every_point(prime), n))


def places(seed, many, least=3, most=8):
    """Places of so many random points over small primes."""
    chance = random.Random(seed)
    found = []
    while len(found) < many:
        prime = chance.choice((5, 5, 7, 7, 11, 13, 17))
        points = random_points(chance, prime, chance.randint(least, most))
        if is_let(prime, points):
            found.append(Place(prime, points))
    return found


def are_in_line(prime, points):
    return count_at(prime, points, (1,) + (1,) * len(points)) > 0


def roots_by_counts(prime, points):
    n = len(points)
    rows = [(1,) + tuple(int(at in some) for at in range(n)) for some in combinations(range(n), 3)]
    rows += [(2,) + tuple(int(at in some) for at in range(n)) for some in combinations(range(n), 6)]
    if n == 8:
        rows += [(3,) + tuple(1 + (at == twice) for at in range(8)) for twice in range(8)]
    return tuple(sorted(row for row in rows if count_at(prime, points, row) > 0))


def total(pairs, n):
    row = (0,) * (n + 1)
    for other, times in pairs:
        row = added(row, multiplied(times, other))
    return row


class Places(unittest.TestCase):

    def test_told(self):
        place = Place(101, CROSS)
        self.assertEqual(place.roots, ((1, 0, 0, 1, 1, 1), (1, 1, 1, 0, 0, 1)))
        self.assertEqual(len(place.staying), 9)
        self.assertEqual(place.parts_of((1, 1, 1, 0, 0, 0)), (((0, 0, 0, 0, 0, -1), 1), ((1, 1, 1, 0, 0, 1), 1)))
        self.assertEqual(str(place), "5 points over 101, kind a1 a1")
        self.assertEqual((place.prime, place.points, place.kind), (101, CROSS, (("a", 1), ("a", 1))))
        self.assertEqual(str(Place(7, CROSS[:3])), "3 points over 7, kind none")
        self.assertEqual(str(Place(101, CORNERS)), "6 points over 101, kind a1 a1 a1 a1")
        self.assertEqual(Place(101, CIRCLE).roots, ((2, 1, 1, 1, 1, 1, 1),))

    def test_general(self):
        for n in range(3, 9):
            place = Place(PRIME, GENERAL[:n])
            self.assertEqual((place.roots, place.bends, place.kind), ((), (), ()))
            self.assertEqual(place.staying, exceptional_rows(n))
            self.assertEqual(place.curves, exceptional_rows(n))
            for row in exceptional_rows(n)[::7]:
                self.assertEqual(place.parts_of(row), ((row, 1),))

    def test_roots_and_bends(self):
        cubics = 0
        for place in places(180, 90) + places(181, 60, 8, 8):
            roots = roots_by_counts(place.prime, place.points)
            self.assertEqual(place.roots, roots)
            sums = [added(one, other) for one in roots for other in roots]
            self.assertEqual(place.bends, tuple(root for root in roots if root not in sums))
            for one, other in combinations(place.bends, 2):
                self.assertIn(product(one, other), (0, 1))
            staying = [row for row in exceptional_rows(len(place)) if all(product(row, bend) >= 0 for bend in place.bends)]
            self.assertEqual(place.staying, tuple(staying))
            self.assertEqual(place.curves, tuple(sorted(place.bends + place.staying)))
            cubics += any(root[0] == 3 for root in roots)
            for index in range(len(place)):
                self.assertIn(point_row(len(place), index), place.staying)
        self.assertTrue(cubics > 10)

    def test_one_curve_each(self):
        for place in places(182, 25):
            for row in place.roots:
                self.assertEqual(count_at(place.prime, place.points, row), 1)
            for row in exceptional_rows(len(place))[::5]:
                twice = added(row, multiplied(-1, cubic(len(place)))) in place.roots
                asked = (row[0],) + tuple(max(number, 0) for number in row[1:])
                self.assertEqual(count_at(place.prime, place.points, asked), 2 if twice else 1)

    def test_kinds_tell_how_many_roots(self):
        seen = {}
        for place in places(183, 300, 5, 8):
            many = 0
            for letter, size in place.kind:
                self.assertEqual(letter, "a")
                many += size * (size + 1) // 2
                seen[letter, size] = True
            self.assertEqual(len(place.roots), many)
            self.assertEqual(len(place.bends), sum(size for _, size in place.kind))
            self.assertEqual(list(place.kind), sorted(place.kind))
        self.assertTrue(len(seen) >= 3)

    def test_kinds_of_dots(self):
        line = [(0,) * (at + 1) + (-1, 1) + (0,) * (6 - at) for at in range(7)]
        turn = (1, 1, 1, 1, 0, 0, 0, 0, 0)
        told = [(line, (("a", 7),)), (line[:3] + [turn], (("a", 4),)), (line[:4] + [turn], (("d", 5),)),
                (line[1:4] + [turn], (("d", 4),)), (line[:5] + [turn], (("e", 6),)), (line[:6] + [turn], (("e", 7),)),
                (line + [turn], (("e", 8),)), (line[1:6] + [turn], (("d", 6),)), (line[1:] + [turn], (("d", 7),)),
                (line[:2] + [turn], (("a", 1), ("a", 2))), (line[:1] + line[2:3] + [turn], (("a", 1), ("a", 2))),
                (line[:2] + line[3:], (("a", 2), ("a", 4))), ([], ())]
        chance = random.Random(184)
        for rows, kind in told:
            for _ in range(5):
                chance.shuffle(rows)
                self.assertEqual(kinds_of(rows), kind)

    def test_parts(self):
        refused = split = 0
        for place in places(185, 40) + places(186, 30, 8, 8):
            n = len(place)
            for row in place.roots:
                pairs = place.parts_of(row)
                self.assertEqual(total(pairs, n), row)
                self.assertTrue(all(bend in place.bends and times >= 1 for bend, times in pairs))
                self.assertEqual(list(pairs), sorted(pairs))
            for row in exceptional_rows(n):
                if added(row, multiplied(-1, cubic(n))) in place.roots:
                    self.assertEqual(caught(self, Refused, place.parts_of, row).reason, ("cubic",))
                    refused += 1
                    continue
                pairs = place.parts_of(row)
                self.assertEqual(total(pairs, n), row)
                self.assertEqual(list(pairs), sorted(pairs))
                self.assertEqual([times for curve, times in pairs if curve in place.staying], [1])
                self.assertTrue(all(curve in place and times >= 1 for curve, times in pairs))
                self.assertEqual(len(pairs) == 1, row in place.staying)
                split += len(pairs) > 2
        self.assertTrue(refused > 10 and split > 10)

    def test_wrong_parts(self):
        place = Place(101, CROSS)
        for wrong in wrong_values() + [cubic(5), (0,) * 6, (1, 1, 1, 1, 0, 0), (2, 0, 0, 2, 2, 2), FIVE, (1, 1, 1, 0),
                                       (True, 0, 0, 1, 1, 1), [1, 0, 0, 1, 1, 1], (1, 0, 0, 1, 1, True)]:
            caught(self, InvalidRow, place.parts_of, wrong)
        # Of less than eight points the cubic and a root have another product with the cubic.
        self.assertEqual(with_cubic(added(cubic(5), place.roots[0])), 4)
        caught(self, InvalidRow, place.parts_of, added(cubic(5), place.roots[0]))


class Refusals(unittest.TestCase):

    def test_wrong(self):
        refuses(self, Place, (7, CROSS), 0, InvalidNumber, wrong_values() + [1, 2, 3, 4, 9, 65537, -7])
        refuses(self, Place, (7, CROSS), 1, InvalidPoints, NO_POINTS + [GENERAL, GENERAL[:8] + ((1, 2, 1),)])
        caught(self, InvalidPoints, Place, PRIME, GENERAL)
        # More than eight points are refused ahead of lines.
        caught(self, InvalidPoints, Place, 11, tuple((at, 0, 1) for at in range(9)))
        self.assertEqual(caught(self, Refused, Place, 11, tuple((at, 0, 1) for at in range(8))).reason, ("line", 0, 1, 2, 3))

    def test_lines_and_conics(self):
        chance = random.Random(187)
        seen = {}
        for _ in range(600):
            prime = chance.choice((5, 7, 11, 13))
            n = chance.randint(3, 8)
            points = random_points(chance, prime, n)
            if chance.random() < 0.5:
                conic = [(x, x * x % prime, 1) for x in range(prime)] + [(0, 1, 0)]
                points = tuple(chance.sample(conic, min(n, len(conic) - 1))) + random_points(chance, prime, 1)
                if len(set(points)) < len(points) or len(points) > 8:
                    continue
                points = tuple(chance.sample(points, len(points)))
            told = self.told_reason(prime, points)
            seen[told and told[0]] = seen.get(told and told[0], 0) + 1
            if told is None:
                self.assertIs(is_let(prime, points), True)
                Place(prime, points)
            else:
                self.assertIs(is_let(prime, points), False)
                self.assertEqual(caught(self, Refused, Place, prime, points).reason, told)
        self.assertTrue(len(seen) == 3 and min(seen.values()) > 20, seen)

    def told_reason(self, prime, points):
        for four in combinations(range(len(points)), 4):
            if are_in_line(prime, tuple(points[at] for at in four)):
                return ("line",) + four
        for seven in combinations(range(len(points)), 7):
            if are_on_conic(prime, tuple(points[at] for at in seven)):
                return ("conic",) + seven
        return None

    def test_line_ahead_of_conic(self):
        seven = tuple((x, 0, 1) for x in range(4)) + tuple((0, y, 1) for y in range(1, 5))
        self.assertEqual(caught(self, Refused, Place, 11, seven).reason, ("line", 0, 1, 2, 3))
        eight = ((5, 1, 1),) + tuple((x, x * x % 11, 1) for x in range(1, 8))
        self.assertEqual(caught(self, Refused, Place, 11, eight).reason, ("conic", 1, 2, 3, 4, 5, 6, 7))


class Whole(unittest.TestCase):

    def test_not_true(self):
        star, sides = Place(101, STAR), Place(101, SIDES)
        self.assertEqual(star.kind, (("a", 1),) * 3)
        self.assertEqual(sides.kind, (("a", 1),) * 3)
        self.assertNotEqual(len(star.staying), len(sides.staying))

    def test_members(self):
        place = Place(101, CROSS)
        for row in place.curves:
            self.assertIs(row in place, True)
            self.assertIs(list(row) in place, False)
            self.assertIs((bool(row[0]),) + row[1:] in place, False)
        for row in exceptional_rows(5):
            self.assertIs(row in place, row in place.curves)
        for value in wrong_values() + [place, CROSS, cubic(5), (1, 1, 1, 0, 0, True), (1, 0, 0, 1, 1, 1, 0)]:
            self.assertIs(value in place, False)
            self.assertIs(value not in place, True)

    def test_length_and_iteration(self):
        for place in places(188, 5):
            self.assertEqual(len(place), len(place.points))
            self.assertEqual(list(place), list(place.curves))
            self.assertEqual(tuple(place), place.curves)
            self.assertEqual([row for row in place], sorted(place.bends + place.staying))

    def test_equal(self):
        one = Place(101, CROSS)
        for same in (Place(101, CROSS), Place(101, tuple([tuple(list(point)) for point in CROSS])), one):
            self.assertIs(one == same, True)
            self.assertIs(one != same, False)
        for other in [Place(103, CROSS), Place(101, CROSS[:4]), Place(101, CROSS[::-1]), CROSS, 101, (101, CROSS),
                      one.curves, Form(101, 0, {})] + wrong_values():
            self.assertIs(one == other, False)
            self.assertIs(one != other, True)
            self.assertIs(other == one, False)

    def test_does_not_change(self):
        place = Place(101, CROSS)
        told = [repr(part) for part in (place.prime, place.points, place.roots, place.bends, place.staying, place.curves,
                                        place.kind)]
        for part in (place.points, place.roots, place.bends, place.staying, place.curves, place.kind):
            self.assertIsInstance(part, tuple)
            self.assertTrue(all(isinstance(row, tuple) for row in part))
        for name in ("prime", "points", "roots", "bends", "staying", "curves", "kind"):
            with self.assertRaises(AttributeError):
                setattr(place, name, ())
        with self.assertRaises(TypeError):
            place + place
        self.assertEqual(told, [repr(part) for part in (place.prime, place.points, place.roots, place.bends, place.staying,
                                                        place.curves, place.kind)])


if __name__ == "__main__":
    unittest.main()
