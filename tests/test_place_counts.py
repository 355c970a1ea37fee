import random
import unittest

from tests.kit import GENERAL, PRIME, caught, near_values, refuses, wrong_values
from tests.test_places import CORNERS, CROSS, places
from timesthrough.count.counts import count
from timesthrough.count.free import is_free
from timesthrough.errors import InvalidOperation, InvalidPoints, InvalidRow
from timesthrough.place.counts import clear_part, count_in, depends, is_clear, is_steps_in, steps_in
from timesthrough.place.places import Place
from timesthrough.plane.forms import count_at
from timesthrough.rows.rows import added, counting, cubic, is_row, less, multiplied, product, square

CALLS = (is_clear, clear_part, steps_in, count_in, depends)
TWICE = (4,) + (2,) * 6


def random_row(chance, n, most=9):
    return (chance.randint(-1, most),) + tuple(chance.randint(-2, chance.choice((2, 3, 5))) for _ in range(n))


def done(place, row, value):
    """The row at which steps end, by [18.3] one time behind another; None if one cannot be done."""
    for curve, times in value:
        for _ in range(min(times, 1000)):
            if curve not in place or product(row, curve) >= 0:
                return None
            row = less(row, curve)
        if times > 1000:
            return None
    return row


def judged(place, row, value):
    if not isinstance(value, tuple) or len(value) > 2000:
        return False
    for step in value:
        if not isinstance(step, tuple) or len(step) != 2 or not is_row(step[0]) or not is_row((step[1], 0, 0, 0)):
            return False
        if step[1] < 1:
            return False
    end = done(place, row, value)
    return end is not None and (end[0] < 0 or all(product(end, curve) >= 0 for curve in place))


def other_steps(chance, place, row):
    """Steps with curves chosen by chance, single times one behind another."""
    made = []
    while row[0] >= 0:
        below = [curve for curve in place if product(row, curve) < 0]
        if not below:
            break
        curve = chance.choice(below)
        row = less(row, curve)
        made.append((curve, 1))
    return tuple(made)


class Counts(unittest.TestCase):

    def test_told(self):
        corners = Place(101, CORNERS)
        self.assertEqual([count_in(corners, (2,) + (1,) * 6), count_in(corners, TWICE), clear_part(corners, TWICE),
                          depends(corners, TWICE)], [0, 1, (0,) * 7, True])

    def test_by_rank(self):
        chance = random.Random(190)
        none = 0
        for place in places(191, 80):
            for _ in range(8):
                row = random_row(chance, len(place))
                told = count_at(place.prime, place.points, row)
                self.assertEqual(count_in(place, row), told)
                part = clear_part(place, row)
                self.assertIs(part is None, told == 0)
                if part is not None:
                    self.assertIs(is_clear(place, part), True)
                    self.assertEqual(counting(part), told)
                    self.assertEqual(clear_part(place, part), part)
                none += told == 0
                self.assertTrue(told >= count((row[0],) + tuple(max(number, 0) for number in row[1:])))
        self.assertTrue(100 < none < 540)

    def test_general_points(self):
        chance = random.Random(192)
        for n in (3, 5, 6, 8):
            place = Place(PRIME, GENERAL[:n])
            for _ in range(30):
                row = random_row(chance, n, 40)
                self.assertEqual(count_in(place, row), count(row) if row[0] >= 0 else 0)
                self.assertIs(is_clear(place, row), is_free(row))

    def test_clear(self):
        chance = random.Random(193)
        seen = {True: 0, False: 0}
        for place in places(194, 60):
            for _ in range(10):
                row = random_row(chance, len(place))
                told = all(product(row, curve) >= 0 for curve in place)
                self.assertIs(is_clear(place, row), told)
                seen[told] += 1
                if told:
                    self.assertIs(is_free(row), True)
                    self.assertEqual(count_in(place, row), counting(row))
                    self.assertEqual(steps_in(place, row), ())
        self.assertTrue(min(seen.values()) > 30)

    def test_clear_part_by_any_steps(self):
        chance = random.Random(195)
        for place in places(196, 40):
            for _ in range(5):
                row = random_row(chance, len(place))
                value = other_steps(chance, place, row)
                end = done(place, row, value)
                self.assertIs(is_steps_in(place, row, value), True)
                self.assertEqual(clear_part(place, row), end if end[0] >= 0 else None)

    def test_depends(self):
        chance = random.Random(197)
        seen = {True: 0, False: 0}
        for place in places(198, 60):
            for _ in range(10):
                row = (chance.randint(0, 8),) + tuple(chance.randint(0, 3) for _ in range(len(place)))
                if count_in(place, row) == 0:
                    caught(self, InvalidOperation, depends, place, row)
                    continue
                told = count_at(place.prime, place.points, row) > counting(row)
                self.assertIs(depends(place, row), told)
                # The same by what comes off, single time by single time.
                left, lacking = row, 0
                for curve, _ in other_steps(chance, place, row):
                    lacking += -product(left, curve) - 1
                    left = less(left, curve)
                self.assertIs(lacking > 0, told)
                self.assertEqual(counting(row) + lacking, count_in(place, row))
                seen[told] += 1
        self.assertTrue(min(seen.values()) > 30)

    def test_depends_refuses(self):
        place = Place(101, CROSS)
        for row in ((0, 1, 0, 0, 0, 0), (-1, 0, 0, 0, 0, 0), (3, 1, 1, 1, -1, 0), (2, 2, 2, 1, 1, 1), (5, 0, 0, 0, 0, -1)):
            caught(self, InvalidOperation, depends, place, row)
        self.assertIs(depends(place, (0, 0, 0, 0, 0, 0)), False)

    def test_not_true(self):
        corners = Place(101, CORNERS)
        # Twice a row has curves where the row has none.
        self.assertEqual((count_in(corners, (2,) + (1,) * 6), count_in(corners, TWICE)), (0, 1))
        # What is taken off are curves that do not meet.
        cross = Place(101, CROSS)
        made = steps_in(cross, (1, 1, 1, 0, 0, 0))
        self.assertEqual(made, (((1, 1, 1, 0, 0, 1), 1), ((0, 0, 0, 0, 0, -1), 1)))
        self.assertEqual((product(made[0][0], made[1][0]), count_in(cross, (1, 1, 1, 0, 0, 0))), (1, 1))
        # A free row is clear.
        line = (2, 1, 1, 1, 0, 0)
        self.assertEqual((is_free((2, 1, 1, 0, 0, 1)), is_clear(cross, (2, 1, 1, 0, 0, 1)), is_clear(cross, line)),
                         (True, False, True))
        # Two lines of three points: no curve meets the row -2 times or less, but its conditions depend.
        lines = Place(101, ((0, 0, 1), (1, 0, 1), (3, 0, 1), (0, 1, 1), (1, 2, 1), (2, 3, 1)))
        row = (2,) + (1,) * 6
        self.assertEqual(len(lines.bends), 2)
        self.assertEqual(min(product(row, curve) for curve in lines), -1)
        self.assertEqual((count_in(lines, row), counting(row), depends(lines, row)), (1, 0, True))


class Steps(unittest.TestCase):

    def test_steps(self):
        chance = random.Random(199)
        for place in places(200, 60):
            for _ in range(6):
                row = random_row(chance, len(place), chance.choice((5, 12, 30)))
                value = steps_in(place, row)
                self.assertIs(judged(place, row, value), True)
                self.assertIs(is_steps_in(place, row, value), True)

    def test_great_rows(self):
        chance = random.Random(201)
        for place in [Place(PRIME, GENERAL[:8]), Place(PRIME, GENERAL[:3])] + places(202, 12, 8, 8):
            n = len(place)
            for row in [(60,) + (60,) * n, (60, 60) + (-60,) * (n - 1), (-60,) + (60,) * n, (0,) + (60,) * n,
                        (60,) + (20,) * n, (60,) + (21,) * n, (60, 60, 60) + (0,) * (n - 2), (59, 60) + (0,) * (n - 1)]:
                self.check_great(place, row)
            for _ in range(6):
                self.check_great(place, (chance.randint(0, 60),) + tuple(chance.randint(-60, 60) for _ in range(n)))

    def check_great(self, place, row):
        value = steps_in(place, row)
        self.assertTrue(len(value) <= 2000)
        self.assertIs(is_steps_in(place, row, value), True)
        end = row
        for curve, times in value:
            end = added(end, multiplied(-times, curve))
        self.assertEqual(clear_part(place, row), end if end[0] >= 0 else None)

    def test_near(self):
        chance = random.Random(203)
        seen = {True: 0, False: 0}
        rows = {}
        for place in places(204, 12) + [Place(101, CORNERS)]:
            rows[place.points] = 1
            for _ in range(2):
                row = random_row(chance, len(place), 5)
                value = steps_in(place, row)[:4]
                values = near_values(value) + near_values(steps_in(place, row))[:60] + [
                    value + ((place.curves[0], 1),), value + (("off", 0),), value[::-1]]
                for near in values + wrong_values():
                    told = judged(place, row, near)
                    self.assertIs(is_steps_in(place, row, near), told, (row, near))
                    seen[told] += 1
        self.assertTrue(min(seen.values()) > 10, seen)

    def test_times(self):
        place = Place(101, CROSS)
        bend = (1, 1, 1, 0, 0, 1)
        row = (0, 1, 1, 0, 0, 1)
        self.assertEqual((product(row, bend), square(bend)), (-3, -2))
        self.assertIs(judged(place, row, ((bend, 2),)), True)
        for times, told in ((1, True), (2, True), (3, False), (0, False), (-1, False), (10 ** 199, False), (True, False)):
            self.assertIs(is_steps_in(place, row, ((bend, times),)), told)
        point = (0, 0, 0, 0, 0, -1)
        row = (3, 0, 0, 0, 0, -4)
        for times, told in ((1, False), (3, False), (4, True), (5, False)):
            self.assertIs(is_steps_in(place, row, ((point, times),)), told)
        self.assertIs(is_steps_in(place, row, ((point, 1), (point, 3))), True)

    def test_2000_members(self):
        place = Place(PRIME, GENERAL[:8])
        row = (-60,) + (-60,) * 8
        singles = ()
        left = row
        while len(singles) < 2001:
            below = [curve for curve in place.curves if product(left, curve) < 0]
            left = less(left, below[-1])
            singles += ((below[-1], 1),)
        for many, told in ((0, True), (1, True), (1999, True), (2000, True), (2001, False)):
            self.assertIs(is_steps_in(place, row, singles[:many]), told)
        # Degrees below 0 are let on the way.
        self.assertIs(judged(place, row, singles[:500]), True)


class Wrong(unittest.TestCase):

    def test_wrong(self):
        place = Place(101, CROSS)
        good = (2, 1, 1, 1, 1, 0)
        no_places = wrong_values() + [CROSS, (101, CROSS), 101, good, [place]]
        no_rows = wrong_values() + [
            cubic(4), cubic(6), cubic(9), (61, 0, 0, 0, 0, 0), (0, 0, 0, 0, 0, 61), (0, -61, 0, 0, 0, 0),
            (-61, 0, 0, 0, 0, 0), (2, 1, 1, 1, 1, True), [2, 1, 1, 1, 1, 0], place]
        for call in CALLS:
            refuses(self, call, (place, good), 0, InvalidPoints, no_places)
            refuses(self, call, (place, good), 1, InvalidRow, no_rows)
        refuses(self, is_steps_in, (place, good, ()), 0, InvalidPoints, no_places)
        refuses(self, is_steps_in, (place, good, ()), 1, InvalidRow, no_rows)
        for call in CALLS[:4]:
            call(place, (60, -60, 60, -60, 60, 0))
            call(place, (-60, 60, 60, -60, 60, 0))


if __name__ == "__main__":
    unittest.main()
