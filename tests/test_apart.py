import random
import unittest
from itertools import combinations, permutations
from math import factorial

from tests.kit import FIVE, GREATEST, are_plain, caught, near_values, refuses, too_many, wrong_values
from tests.test_exceptional import EIGHT
from tests.test_moves import by_hand, random_word, units
from tests.test_rows import NO_ROWS
from timesthrough.count.counts import count
from timesthrough.errors import InvalidLot, InvalidNumber, InvalidOperation, InvalidRow, Refused
from timesthrough.lots.apart import (are_apart, blown_down, blown_up, further, kind_of, line_of, lots_count, rulings_of,
                                     to_points, to_rulings, whole_lots)
from timesthrough.rows.exceptional import exceptional_rows
from timesthrough.rows.moves import is_map, is_word, map_of, moved, moved_by
from timesthrough.rows.rows import (added, cubic, less, line_row, multiplied, point_row, product, square, with_cubic)

LOT = ((2, 1, 1, 1, 1, 1), (1, 1, 1, 0, 0, 0), (1, 1, 0, 1, 0, 0), (1, 1, 0, 0, 1, 0), (1, 1, 0, 0, 0, 1))
RULED = ((1, 1, 1, 0), (0, 0, 0, -1))
ROWS = {n: exceptional_rows(n) for n in range(3, 9)}
NO_LOTS = wrong_values() + NO_ROWS + [
    (), (cubic(3),), (FIVE, FIVE), (FIVE, (0, -1, 0, 0, 0, 0, 0)), (FIVE, (0, 0, 0, 0, -1)), list(RULED), RULED[0],
    (RULED[0], list(RULED[1])), ((True, 1, 1, 0),), ((1, 1, 1, False),), (point_row(9, 8),), (point_row(10, 1),),
    tuple(point_row(9, at) for at in range(9)), (FIVE, None), (None, FIVE), (5, FIVE), (True,), (FIVE, 5), ((2, 1, 1, 1, 1, 1, 1),), (line_row(3),)]


def lots(n, size):
    """All sets of so many rows of which no two meet, as ascending tuples, by a search."""
    found = [()]
    for _ in range(size):
        found = [lot + (row,) for lot in found for row in ROWS[n]
                 if (not lot or row > lot[-1]) and all(product(row, other) == 0 for other in lot)]
    return found


def is_whole(lot):
    """Whether a search finds no further row for a lot."""
    return not any(all(product(row, other) == 0 for other in lot) for row in ROWS[len(lot[0]) - 1])


def random_lot(chance, n, size=None, ruled=False):
    size = size or chance.randint(1, n)
    rows = [point_row(n, at) for at in range(n)]
    lot = ([(1, 1, 1) + (0,) * (n - 2)] + rows[2:]) if ruled else chance.sample(rows, size)
    chance.shuffle(lot)
    word = random_word(chance, n, 15)
    return tuple(by_hand(row, word) for row in lot)


class Lots(unittest.TestCase):

    def test_told(self):
        self.assertEqual([are_apart(LOT), kind_of(LOT), line_of(LOT), further(LOT[:4]), kind_of(RULED)],
                         [True, "points", (3, 2, 1, 1, 1, 1), ((1, 1, 0, 0, 0, 1),), "rulings"])

    def test_are_apart(self):
        chance = random.Random(91)
        seen = {True: 0, False: 0}
        for lot in [LOT, RULED] + [random_lot(chance, chance.randint(3, 8), None, chance.random() < 0.3) for _ in range(15)]:
            for value in near_values(lot) + [lot, lot[::-1], lot + (chance.choice(ROWS[len(lot[0]) - 1]),)]:
                told = are_plain(value) and isinstance(value, tuple) and len(value) > 0
                told = told and all(any(row in rows for rows in ROWS.values()) for row in value)
                told = told and all(len(one) == len(other) and product(one, other) == 0
                                    for one, other in combinations(value, 2))
                self.assertIs(are_apart(value), told)
                seen[told] += 1
        self.assertTrue(min(seen.values()) > 50)
        for wrong in NO_LOTS:
            self.assertIs(are_apart(wrong), False)

    def test_kinds_and_further(self):
        for n in (3, 4, 5, 6):
            for size in range(1, n + 1):
                for lot in lots(n, size)[::1 if n < 6 else 7]:
                    found = tuple(row for row in ROWS[n] if all(product(row, other) == 0 for other in lot))
                    self.assertEqual(further(lot), found)
                    kind = "rulings" if size == n - 1 and not found else "points"
                    self.assertEqual((kind_of(lot), kind_of(lot[::-1])), (kind, kind))
                    self.assertTrue(found or size >= n - 1)

    def test_to_points_and_to_rulings(self):
        chance = random.Random(92)
        seen = {"points": 0, "rulings": 0}
        some = [chance.sample(lot, len(lot)) for n in (3, 4, 5) for size in range(1, n + 1) for lot in lots(n, size)]
        some += [random_lot(chance, chance.randint(3, 8), None, chance.random() < 0.4) for _ in range(200)]
        some += [random_lot(chance, 8, 8), random_lot(chance, 8, 7), random_lot(chance, 7, 7), random_lot(chance, 8, 1)]
        for lot in map(tuple, some):
            n, kind = len(lot[0]) - 1, kind_of(lot)
            seen[kind] += 1
            goal = [point_row(n, at) for at in range(n)]
            good, bad = (to_points, to_rulings) if kind == "points" else (to_rulings, to_points)
            if kind == "rulings":
                goal = [(1, 1, 1) + (0,) * (n - 2)] + goal[2:]
            word = good(lot)
            self.assertTrue(is_word(n, word) and len(word) <= 200)
            self.assertEqual([by_hand(row, word) for row in lot], goal[:len(lot)])
            self.assertEqual(caught(self, Refused, bad, lot).reason, (kind,))
        self.assertTrue(min(seen.values()) > 50)

    def test_line_of(self):
        chance = random.Random(93)
        for _ in range(60):
            n = chance.randint(3, 8)
            lot = random_lot(chance, n, n)
            line = line_of(lot)
            self.assertEqual((square(line), with_cubic(line)), (1, 3))
            self.assertTrue(all(product(line, row) == 0 for row in lot))
            total = cubic(n)
            for row in lot:
                total = added(total, row)
            self.assertEqual(multiplied(3, line), total)
            self.assertIs(is_map((line,) + lot), True)
            rows = map_of(n, random_word(chance, n))
            self.assertEqual(line_of(rows[1:]), rows[0])
            for size in range(1, n):
                self.assertEqual(caught(self, Refused, line_of, lot[:size]).reason, ("size", size))
        self.assertEqual(caught(self, Refused, line_of, RULED).reason, ("size", 2))

    def test_rulings_of(self):
        chance = random.Random(94)
        for n in (3, 4, 5, 6, 7, 8):
            for _ in range(12):
                lot = random_lot(chance, n, None, True)
                one, other = rulings_of(lot)
                self.assertTrue(one < other)
                self.assertEqual([square(row) for row in (one, other)] + [with_cubic(row) for row in (one, other)], [0, 0, 2, 2])
                self.assertTrue(all(product(one, row) == 0 == product(other, row) for row in lot))
                self.assertEqual(product(one, other), 1)
                bad = random_lot(chance, n)
                if kind_of(bad) == "points":
                    self.assertEqual(caught(self, Refused, rulings_of, bad).reason, ("points",))
        self.assertEqual(rulings_of(RULED), ((1, 0, 1, 0), (1, 1, 0, 0)))

    def test_lots_count(self):
        for n in (3, 4, 5, 6):
            for size in range(1, n + 1):
                found = lots(n, size)
                ruled = [lot for lot in found if size == n - 1 and is_whole(lot)]
                self.assertEqual(lots_count(n, size), len(found) - len(ruled))
                self.assertEqual(lots_count(n, size, "points"), len(found) - len(ruled))
                if size == n - 1:
                    self.assertEqual(lots_count(n, size, "rulings"), len(ruled))
                else:
                    self.assertEqual(caught(self, InvalidNumber, lots_count, n, size, "rulings").given, size)
        numbers = (240, 56, 27, 16, 10, 6, 2, 1)
        for n in (7, 8):
            for size in range(1, n + 1):
                told = 1
                for number in numbers[8 - n:8 - n + size]:
                    told *= number
                self.assertEqual(lots_count(n, size), told // factorial(size))
        self.assertEqual([lots_count(n, n - 1, "rulings") for n in (7, 8)], [2016, 69120])
        for n in (7, 8):
            for size in (1, 2):
                self.assertEqual(lots_count(n, size), len(lots(n, size)))

    def test_whole_lots(self):
        for n, many in ((3, 2), (4, 5), (5, 16), (6, 72)):
            found = whole_lots(n)
            self.assertEqual((len(found), found), (many, tuple(sorted(set(found)))))
            self.assertTrue(all(are_apart(lot) and len(lot) == n and list(lot) == sorted(lot) for lot in found))
            self.assertEqual(found, tuple(lots(n, n)))
        self.assertEqual(len({line_of(lot) for lot in whole_lots(6)}), 72)

    def test_wrong(self):
        for call in (kind_of, further, to_points, to_rulings, line_of, rulings_of):
            refuses(self, call, (LOT,), 0, InvalidLot, NO_LOTS)
        no_eight = wrong_values() + [-3, 0, 1, 2, 9, 16, "3", (3,)]
        refuses(self, lots_count, (5, 4, "rulings"), 0, InvalidNumber, no_eight)
        refuses(self, lots_count, (5, 4, "rulings"), 1, InvalidNumber, wrong_values() + [-1, 0, 6, 7, "4", (4,)])
        kinds = [wrong for wrong in wrong_values()] + ["point", "ruling", "Points", "", ("points",), 5]
        refuses(self, lots_count, (5, 4, "rulings"), 2, InvalidOperation, kinds)
        refuses(self, lots_count, (5, 3, "rulings"), 2, InvalidOperation, kinds)
        refuses(self, whole_lots, (3,), 0, InvalidNumber, no_eight + [7, 8])
        for size in (1, 2, 3, 5):
            self.assertEqual(caught(self, InvalidNumber, lots_count, 5, size, "rulings").given, size)


class Blowing(unittest.TestCase):

    def test_down_and_up(self):
        chance = random.Random(95)
        equal = 0
        for _ in range(300):
            n = chance.randint(3, 8)
            row = (chance.randint(0, 9),) + tuple(chance.randint(-2, 4) for _ in range(n))
            lot = random_lot(chance, n, None, chance.random() < 0.3)
            times = tuple(product(row, other) for other in lot)
            down = blown_down(row, lot)
            self.assertEqual([product(down, other) for other in lot], [0] * len(lot))
            self.assertEqual(blown_up(down, lot, times), row)
            self.assertEqual(square(down), square(row) + sum(number ** 2 for number in times))
            self.assertEqual(with_cubic(down), with_cubic(row) + sum(times))
            self.assertTrue(count(down) >= count(row))
            if max(times) <= 0:
                self.assertEqual(count(down), count(row))
                equal += 1
            more = tuple(chance.randint(-5, 5) for _ in lot)
            told = down
            for other, number in zip(lot, more):
                told = less(told, multiplied(number, other))
            self.assertEqual(blown_up(down, lot, more), told)
            met = [at for at, number in enumerate(times) if number != 0]
            if met:
                self.assertEqual(caught(self, Refused, blown_up, row, lot, more).reason, ("meets", met[0]))
        self.assertTrue(equal > 10)
        self.assertEqual(blown_down((4, 2, 2, 2, 2, 2), ((2, 1, 1, 1, 1, 1),)), (0,) * 6)
        self.assertEqual(blown_down((3, 1, 2, 0), (point_row(3, 0),)), (3, 0, 2, 0))

    def test_blown_down_by_maps(self):
        chance = random.Random(96)
        for _ in range(50):
            n = chance.randint(3, 8)
            lot = random_lot(chance, n, n)
            row = (chance.randint(0, 9),) + tuple(chance.randint(-2, 4) for _ in range(n))
            word = to_points(lot)
            there = moved(row, word)
            self.assertEqual(moved(blown_down(row, lot), word), (there[0],) + (0,) * n)
            self.assertEqual(moved_by(line_row(n), (line_of(lot),) + lot), line_of(lot))
            self.assertEqual([by_hand(line_of(lot), word)], [units(n)[0]])

    def test_long(self):
        lot = ((1, 1, 1, 0),)
        long = (GREATEST, 0, 0, 0)
        too_many(self, 200, blown_down, long, lot)
        self.assertEqual(blown_down(long, (point_row(3, 1),)), long)
        too_many(self, 200, blown_up, (GREATEST, GREATEST, 0, 0), lot, (-1,))
        self.assertEqual(blown_up((GREATEST, GREATEST, 0, 0), lot, (1,)), (GREATEST - 1, GREATEST - 1, -1, 0))
        self.assertEqual(caught(self, Refused, blown_up, long, lot, (-1,)).reason, ("meets", 0))
        two = (point_row(3, 0), point_row(3, 2))
        self.assertEqual([caught(self, Refused, blown_up, row, two, (0, 0)).reason for row in ((1, 0, 0, 5), (1, -1, 0, 5))],
                         [("meets", 1), ("meets", 0)])

    def test_wrong(self):
        no_times = wrong_values() + [(1,), (1, 2, 3), [1, 2], (1, True), (1, None), (10 ** 200, 0), ("1", "2"), ()]
        row = (1, 1, 0, 0)
        for call, args in ((blown_down, (row, RULED)), (blown_up, (row, RULED, (0, 0)))):
            refuses(self, call, args, 0, InvalidRow, EIGHT)
            refuses(self, call, args, 1, InvalidLot, NO_LOTS + [LOT, (FIVE,), (point_row(4, 0),)])
        refuses(self, blown_up, (row, RULED, (0, 0)), 2, InvalidOperation, no_times)
        refuses(self, blown_up, ((1, 0, 0, 7), RULED, (0, 0)), 2, InvalidOperation, no_times)


class Permuted(unittest.TestCase):

    def test_orders_of_a_lot(self):
        for lot in list(permutations(LOT[:4])) + list(permutations(RULED)):
            self.assertIs(are_apart(lot), True)
            self.assertEqual(further(lot), further(tuple(sorted(lot))))


if __name__ == "__main__":
    unittest.main()
