import random
import unittest
from itertools import product as every
from math import gcd
from zlib import crc32

from tests.kit import FIVE, GREATEST, are_plain, caught, climbed, near_values, refuses, too_many, wrong_values
from tests.test_free import orbit
from tests.test_moves import by_hand, random_word, units
from tests.test_roots import simple_moves
from tests.test_rows import NO_ROWS, random_row
from tests.test_steps import FEW
from timesthrough.count.steps import settled
from timesthrough.errors import InvalidNumber, InvalidRow
from timesthrough.mirrors.roots import roots
from timesthrough.nine import lattice as module
from timesthrough.nine.lattice import (are_led_nine, divisor, end_of, exceptional_of, folded_row, is_lattice_row,
                                       lattice_of, lattice_rows, led_nine, norm, shift_word, shifted, unfolded)
from timesthrough.rows.exceptional import is_exceptional
from timesthrough.rows.moves import is_word, moved
from timesthrough.rows.rows import (added, cubic, less, line_row, multiplied, point_row, product, square, with_cubic)

A = (0, 1, -1, 0, 0, 0, 0, 0, 0)
P, K = point_row(9, 8), cubic(9)
NO_NINES = FEW + [cubic(n) for n in range(3, 9)]
NO_LATTICE = NO_ROWS + [cubic(n) for n in range(3, 12)] + [
    (0, 1, -1, 0, 0, 0, 0, 0), (0, 1, -1) + (0,) * 7, (1, 1, 1, 0, 0, 0, 0, 0, 0), (0, 1, 0, 0, 0, 0, 0, 0, 0),
    (0, True, -1, 0, 0, 0, 0, 0, 0), list(A)]

# What check sums tell of words that are to stay as they are.
SHIFT_SUMS = [2555245823, 3416399727, 2825414654]
WORD_SUM = 2295978430


def lattice_row(chance, most=4):
    numbers = [chance.randint(-most, most) for _ in range(8)]
    numbers[0] -= sum(numbers) % 3
    return (sum(numbers) // 3,) + tuple(numbers)


def nine(row):
    return row + (0,)


def folded(f, u, c):
    """[12.2] as it stands."""
    return added(added(multiplied(f, P), nine(u)), multiplied(c, K))


def opposite(row):
    return tuple(-entry for entry in row)


class Lattice(unittest.TestCase):

    def test_constants(self):
        self.assertEqual((module.MOST_NORM, module.MOST_LED), (8, 20))

    def test_told(self):
        self.assertEqual([norm(A), exceptional_of(A), lattice_of(P), unfolded(K)],
                         [2, (3, 2, 0, 1, 1, 1, 1, 1, 1, 0), (0,) * 9, (0, (0,) * 9, 1)])
        self.assertEqual([len(lattice_rows(number)) for number in (0, 2, 4)], [1, 240, 2160])

    def test_is_lattice_row(self):
        chance = random.Random(71)
        seen = {True: 0, False: 0}
        for row in [lattice_row(chance) for _ in range(20)] + [A, (0,) * 9, (GREATEST // 3 * 3,) * 9]:
            for value in near_values(row) + [row]:
                told = are_plain(value) and isinstance(value, tuple) and len(value) == 9
                told = told and all(isinstance(entry, int) for entry in value) and 3 * value[0] == sum(value[1:])
                self.assertIs(is_lattice_row(value), told)
                seen[told] += 1
        self.assertTrue(min(seen.values()) > 20)
        for wrong in NO_LATTICE:
            self.assertIs(is_lattice_row(wrong), False)

    def test_norm(self):
        chance = random.Random(72)
        for _ in range(100):
            u = lattice_row(chance)
            self.assertEqual((norm(u), norm(u) % 2), (-square(u), 0))
            self.assertEqual(norm(u) == 0, not any(u))
        self.assertEqual(norm((0, GREATEST, -GREATEST) + (0,) * 6), 2 * GREATEST * GREATEST)

    def test_lattice_rows(self):
        self.assertEqual(lattice_rows(0), ((0,) * 9,))
        self.assertEqual(lattice_rows(2), roots(8))
        four = lattice_rows(4)
        self.assertEqual(list(four), sorted(set(four)))
        self.assertTrue(all(is_lattice_row(u) and norm(u) == 4 for u in four))
        self.assertEqual(set(four), orbit(added((0, 1, -1, 0, 0, 0, 0, 0, 0), (0, 0, 0, 1, -1, 0, 0, 0, 0))))
        # Each is a sum of two roots that meet 0 times, and each such sum is one of them.
        self.assertEqual(set(four), {added(one, other) for one in roots(8) for other in roots(8) if product(one, other) == 0})
        self.assertEqual(len(four), 2160)

    def test_unfolded(self):
        chance = random.Random(73)
        for _ in range(200):
            row = random_row(chance, 9)
            f, u, c = unfolded(row)
            self.assertEqual(f, with_cubic(row))
            self.assertIs(is_lattice_row(u), True)
            self.assertEqual((folded(f, u, c), folded_row(f, u, c)), (row, row))
            f, u, c = chance.randint(-5, 5), lattice_row(chance), chance.randint(-9, 9)
            self.assertEqual((folded_row(f, u, c), unfolded(folded_row(f, u, c))), (folded(f, u, c), (f, u, c)))
        self.assertEqual((unfolded(P), unfolded((0,) * 10)), ((1, (0,) * 9, 0), (0, (0,) * 9, 0)))

    def test_exceptional(self):
        chance = random.Random(74)
        for u in list(lattice_rows(2))[::9] + [lattice_row(chance) for _ in range(50)]:
            row = exceptional_of(u)
            self.assertIs(is_exceptional(row), True)
            self.assertEqual((unfolded(row), lattice_of(row)), ((1, u, norm(u) // 2), u))
        for many in (0, 1, 2, 50, 1950):
            row = climbed(P, many)
            self.assertEqual(exceptional_of(lattice_of(row)), row)
            self.assertEqual(unfolded(row)[2], norm(lattice_of(row)) // 2)

    def test_shifted(self):
        chance = random.Random(75)
        for _ in range(150):
            row, other = random_row(chance, 9), random_row(chance, 9)
            w, v = lattice_row(chance), lattice_row(chance)
            f, u, c = unfolded(row)
            there = folded(f, added(u, multiplied(f, w)), c - product(u, w) + f * norm(w) // 2)
            self.assertEqual(shifted(row, w), there)
            self.assertEqual(product(shifted(row, w), shifted(other, w)), product(row, other))
            self.assertEqual(shifted(shifted(row, w), v), shifted(row, added(w, v)))
            self.assertEqual((shifted(K, w), shifted(row, (0,) * 9), shifted(P, w)), (K, row, exceptional_of(w)))
        # A shift may make a degree less.
        self.assertEqual([shifted(P, A)[0], shifted(shifted(P, A), opposite(A))[0]], [3, 0])

    def test_shift_word(self):
        chance = random.Random(76)
        two, four = lattice_rows(2), lattice_rows(4)
        some = [(0,) * 9] + chance.sample(two, 25) + chance.sample(four, 25)
        while len(some) < 100:
            w = added(chance.choice(four), chance.choice(two + four))
            if norm(w) in (6, 8):
                some.append(w)
        some.append(multiplied(2, A))
        for w in some:
            word = shift_word(w)
            self.assertIs(is_word(9, word), True)
            for row in units(9) + (random_row(chance, 9),):
                self.assertEqual(by_hand(row, word), shifted(row, w))
        self.assertEqual({norm(w) for w in some}, {0, 2, 4, 6, 8})
        for w in (added((0, 2, -2, 0, 0, 0, 0, 0, 0), (0, 0, 0, 1, -1, 0, 0, 0, 0)), multiplied(3, A),
                  (0, GREATEST, -GREATEST) + (0,) * 6):
            self.assertTrue(norm(w) >= 10)
            too_many(self, 8, shift_word, w)

    def test_divisor(self):
        chance = random.Random(77)
        for _ in range(100):
            u = multiplied(chance.choice((-6, -1, 1, 2, 4, 15)), lattice_row(chance))
            self.assertEqual(divisor(u), gcd(*u))
        self.assertEqual([divisor(u) for u in ((0,) * 9, A, multiplied(-10 ** 150, A))], [0, 1, 10 ** 150])

    def test_long(self):
        long = (0, GREATEST, -GREATEST) + (0,) * 6
        self.assertEqual(folded_row(0, long, 0), nine(long))
        self.assertEqual(folded_row(0, (0,) * 9, GREATEST // 3), multiplied(GREATEST // 3, K))
        too_many(self, 200, folded_row, 0, long, 1)
        too_many(self, 200, folded_row, GREATEST, (0,) * 9, -GREATEST)
        too_many(self, 200, folded_row, 0, (0,) * 9, GREATEST // 3 + 1)
        self.assertEqual(unfolded(nine(long)), (0, long, 0))
        for row in ((GREATEST,) + (0,) * 9, (0,) + (GREATEST, GREATEST, GREATEST) + (0,) * 6):
            too_many(self, 200, unfolded, row)
        self.assertEqual(unfolded((0,) * 9 + (-GREATEST,)), (GREATEST, (0,) * 9, 0))
        # Here f alone is longer than 200 digits.
        too_many(self, 200, unfolded, (15,) + (5,) * 8 + (-GREATEST,))
        near = (0, 10 ** 99, -10 ** 99) + (0,) * 6
        self.assertEqual(lattice_of(exceptional_of(near)), near)
        too_many(self, 200, exceptional_of, long)
        too_many(self, 200, exceptional_of, (0, 10 ** 100, -10 ** 100) + (0,) * 6)
        too_many(self, 200, shifted, P, long)
        too_many(self, 200, shifted, (GREATEST,) + (0,) * 9, A)
        self.assertEqual(shifted(K, long), K)

    def test_wrong(self):
        for call in (norm, exceptional_of, shift_word, divisor):
            refuses(self, call, (A,), 0, InvalidRow, NO_LATTICE)
        for call in (unfolded, end_of, lattice_of):
            refuses(self, call, (P,), 0, InvalidRow, NO_NINES)
        refuses(self, lattice_of, (P,), 0, InvalidRow, [K, line_row(9), (0,) * 10, nine(A), less(P, K)])
        refuses(self, lattice_of, (P,), 0, InvalidRow, [FIVE, point_row(8, 7), point_row(3, 0)])
        refuses(self, lattice_rows, (0,), 0, InvalidNumber, wrong_values() + [-2, 1, 3, 5, 6, 8, "2", (2,)])
        good = (1, A, 0)
        refuses(self, folded_row, good, 0, InvalidNumber, wrong_values() + ["1", (1,)])
        refuses(self, folded_row, good, 1, InvalidRow, NO_LATTICE)
        refuses(self, folded_row, good, 2, InvalidNumber, wrong_values() + ["1", (1,)])
        refuses(self, shifted, (P, A), 0, InvalidRow, NO_NINES)
        refuses(self, shifted, (P, A), 1, InvalidRow, NO_LATTICE)
        for call in (led_nine, are_led_nine):
            refuses(self, call, (P, P), 0, InvalidRow, NO_NINES)
            refuses(self, call, (P, P), 1, InvalidRow, NO_NINES)


class Ends(unittest.TestCase):

    def test_above_and_below(self):
        chance = random.Random(78)
        for _ in range(200):
            row = random_row(chance, 9)
            f = with_cubic(row)
            if f > 0:
                self.assertEqual(end_of(row), ("above", settled(row)))
                self.assertEqual(end_of(opposite(row)), ("below", settled(row)))
        for start in (P, line_row(9), (7, 5, 5, 0, 0, 0, 0, -2, -3, 1)):
            for many in (0, 1, 1900, 1901, 5000):
                row = climbed(start, many)
                self.assertEqual(end_of(row), ("above", settled(start)))
                self.assertEqual(end_of(opposite(row)), ("below", settled(start)))
                self.assertIs(are_led_nine(row, start), True)
        for u in (A, (3, 2) + (1,) * 7, (-1, 2, -5, 0, 0, 0, 0, 0, 0)):
            far = multiplied(10 ** 90, u)
            self.assertEqual(end_of(exceptional_of(far)), ("above", P))
            row = shifted((5, 2, 1, 1, 0, 0, 0, 0, 0, -1), far)
            self.assertEqual(end_of(row), ("above", (5, 2, 1, 1, 0, 0, 0, 0, 0, -1)))

    def test_level(self):
        chance = random.Random(79)
        for _ in range(200):
            u, c, times = lattice_row(chance, 3), chance.randint(-9, 9), chance.choice((1, 1, 2, 3))
            u = multiplied(times, u)
            row = folded(0, u, c)
            self.assertEqual(end_of(row), ("level", settled(u), c % divisor(u) if any(u) else c))
            word = random_word(chance, 9)
            self.assertEqual(end_of(by_hand(row, word)), end_of(row))
            self.assertEqual(end_of(shifted(row, lattice_row(chance))), end_of(row))
        for c in (-5, 0, 7, GREATEST // 3):
            self.assertEqual(end_of(multiplied(c, K)), ("level", (0,) * 9, c))

    def test_words_keep_ends(self):
        chance = random.Random(80)
        for _ in range(100):
            row = random_row(chance, 9)
            self.assertEqual(end_of(by_hand(row, random_word(chance, 9))), end_of(row))
            self.assertEqual(end_of(shifted(row, lattice_row(chance, 99))), end_of(row))

    def test_long(self):
        low = (GREATEST, GREATEST, GREATEST, GREATEST - 1) + (0,) * 6
        too_many(self, 200, end_of, (0, 10 ** 150, -10 ** 150) + (0,) * 6 + (-1,))
        too_many(self, 200, end_of, (0, 10 ** 150, -10 ** 150) + (0,) * 6 + (1,))
        self.assertIs(are_led_nine((0, 10 ** 150, -10 ** 150) + (0,) * 6 + (-1,), P), False)
        self.assertEqual(end_of((GREATEST,) + (0,) * 9), ("above", (GREATEST,) + (0,) * 9))
        too_many(self, 200, end_of, low)
        third = GREATEST // 3
        # The settled root has the degree -3.
        self.assertEqual(end_of((0, third, -third) + (0,) * 7), ("level", (-3 * third,) + (-third,) * 7 + (-2 * third,), 0))
        too_many(self, 200, end_of, (0, third + 1, -third - 1) + (0,) * 7)
        too_many(self, 200, end_of, (0, GREATEST, GREATEST, GREATEST, -GREATEST, -GREATEST, -GREATEST, 0, 0, 0))

    def test_led_by_looking(self):
        # All rows with small numbers that can be reached through rows with numbers not much greater.
        chance = random.Random(81)
        for start in (P, line_row(9), nine(A), (1, 1, 1) + (0,) * 7, folded(0, multiplied(2, A), 1), opposite(P), K):
            seen, new = {start}, [start]
            while new and len(seen) < 4000:
                one = new.pop(0)
                for move in simple_moves(9) + [("turn", 6, 7, 8), ("turn", 3, 4, 5)]:
                    other = by_hand(one, (move,))
                    if other not in seen and max(abs(entry) for entry in other[1:]) <= 4:
                        seen.add(other)
                        new.append(other)
            for other in chance.sample(sorted(seen), min(25, len(seen))):
                word = led_nine(start, other)
                self.assertIs(is_word(9, word), True)
                self.assertEqual(by_hand(start, word), other)
                self.assertIs(are_led_nine(start, other), True)
            for _ in range(20):
                other = random_row(chance, 9)
                if end_of(other) != end_of(start):
                    self.assertIs(led_nine(start, other), None)
                    self.assertIs(are_led_nine(start, other), False)

    def small(self, row):
        return max(abs(number) for number in row[1:]) <= 20

    def test_led_nine(self):
        chance = random.Random(82)
        many = {"above": 0, "below": 0, "level": 0}
        two = lattice_rows(2)
        while min(many.values()) < 60:
            f = chance.choice((0, 0, 1, 2, 5, -1, -3))
            one = folded(f, multiplied(chance.choice((1, 1, 2, 3)), lattice_row(chance, 4)), chance.randint(-18, 18))
            other = one
            for _ in range(8):
                there = shifted(by_hand(other, random_word(chance, 9, 3)), chance.choice(two))
                other = there if self.small(there) else other
            if not self.small(one):
                continue
            word = led_nine(one, other)
            self.assertIs(is_word(9, word), True)
            self.assertEqual(by_hand(one, word), other)
            self.assertIs(are_led_nine(one, other), True)
            many[end_of(one)[0]] += 1

    def test_level_words_stay(self):
        # Any word would do: these are the ones that were returned from the start.
        word = (("turn", 0, 2, 3), ("turn", 0, 4, 5), ("turn", 0, 6, 7), ("swap", 0, 6), ("swap", 1, 7), ("swap", 2, 4),
                ("swap", 3, 5), ("swap", 6, 7), ("turn", 1, 2, 7), ("turn", 3, 4, 7), ("turn", 5, 6, 8), ("turn", 3, 4, 7),
                ("turn", 1, 2, 7), ("swap", 0, 7), ("swap", 6, 7), ("swap", 3, 5), ("swap", 2, 4), ("swap", 1, 7),
                ("swap", 0, 6), ("turn", 0, 6, 7), ("turn", 0, 4, 5), ("turn", 0, 2, 3))
        self.assertEqual(led_nine(nine(A), folded(0, A, 1)), word)
        self.assertEqual(led_nine(multiplied(5, K), multiplied(5, K)), ())
        self.assertEqual([crc32(repr(shift_word(w)).encode()) for w in (A, multiplied(2, A), (3, 2) + (1,) * 7)],
                         SHIFT_SUMS)
        chance = random.Random(84)
        words = []
        while len(words) < 250:
            u = multiplied(chance.choice((1, 1, 2, 3)), lattice_row(chance, chance.choice((1, 2, 4))))
            one = folded(0, u, chance.randint(-15, 15))
            other = folded(0, u[:1] + tuple(chance.sample(u[1:], 8)), chance.randint(-15, 15))
            if not self.small(one) or not self.small(other):
                continue
            word = led_nine(one, other)
            self.assertIs(are_led_nine(one, other), word is not None)
            if word is not None:
                self.assertEqual(by_hand(one, word), other)
            words.append(word)
        self.assertTrue(50 < words.count(None) < 200)
        self.assertEqual(crc32(repr(words).encode()), WORD_SUM)

    def test_led_nine_hard(self):
        u = (0, -1, 1, 0, 0, 0, 0, 0, 0)
        pairs = [(folded(0, u, 19), folded(0, A, -19)), (folded(0, u, -19), folded(0, (3, 2) + (1,) * 7, 18)),
                 ((7, 20, 20, 20, -20, -20, 20, -20, -20, 20), (7, -20, 20, 20, -20, -20, 20, -20, 20, 20)),
                 ((1, -20, 20, 20, 20, -20, -20, 1, -20, 20), (1, 20, 20, 20, -20, -20, -20, 1, -20, 20)),
                 ((-40, -20, -20, 0, 0, -20, -20, 0, -20, -20), (40, 0, 20, 20, 20, 0, 20, 20, 20, 0)),
                 ((GREATEST,) + (20,) * 8 + (-20,), (GREATEST, -20) + (20,) * 8),
                 ((-GREATEST,) + (20,) * 8 + (-20,), (-GREATEST, -20) + (20,) * 8)]
        for one, other in pairs:
            for first, second in ((one, other), (other, one)):
                word = led_nine(first, second)
                self.assertIs(is_word(9, word), True)
                self.assertEqual(by_hand(first, word), second)

    def test_not_led(self):
        for one, other in ((K, multiplied(2, K)), (K, (0,) * 10), (P, opposite(P)), (nine(A), multiplied(2, nine(A))),
                           (folded(0, multiplied(2, A), 0), folded(0, multiplied(2, A), 1)), (P, line_row(9))):
            self.assertIs(led_nine(one, other), None)
            self.assertIs(are_led_nine(one, other), False)
        # Equal squares and equal products with the cubic do not do.
        one, other = folded(0, multiplied(2, A), 0), folded(0, multiplied(2, A), 1)
        self.assertEqual((square(one), with_cubic(one)), (square(other), with_cubic(other)))
        self.assertIsNot(led_nine(folded(0, multiplied(2, A), 2), folded(0, multiplied(2, A), -4)), None)

    def test_bounds(self):
        for one, other in every((P, (0, 21) + (0,) * 8, (0, 0, -21) + (0,) * 7, (0,) * 9 + (21,), (GREATEST,) * 10), repeat=2):
            if (one, other) != (P, P):
                too_many(self, 20, led_nine, one, other)
            self.assertIs(are_led_nine(one, other), sorted(one) == sorted(other))
        self.assertEqual(by_hand((0, 20) + (0,) * 8, led_nine((0, 20) + (0,) * 8, (0,) * 9 + (20,))), (0,) * 9 + (20,))
        self.assertIs(led_nine((0, 20) + (0,) * 8, (0,) * 9 + (-20,)), None)
        self.assertIs(are_led_nine(climbed(P, 3000), climbed(P, 2)), True)
        self.assertIs(are_led_nine(climbed(P, 3000), climbed(line_row(9), 2)), False)
        self.assertEqual(moved((30,) + (0,) * 9, led_nine((30,) + (0,) * 9, (30,) + (0,) * 9)), (30,) + (0,) * 9)

    def test_too_many_comes_last(self):
        caught(self, InvalidRow, led_nine, (0, 21) + (0,) * 8, FIVE)
        caught(self, InvalidRow, led_nine, FIVE, (0, 21) + (0,) * 8)


if __name__ == "__main__":
    unittest.main()
