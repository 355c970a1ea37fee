import random
import unittest

from tests.kit import FIVE, GREATEST, are_plain, caught, near_values, refuses, too_many, wrong_values
from tests.test_exceptional import MANY as EXCEPTIONAL
from tests.test_moves import NO_WORDS, by_hand, random_word, units
from tests.test_rows import NO_ROWS, random_row
from timesthrough.count.steps import settled
from timesthrough.errors import InvalidNumber, InvalidRow, InvalidWord
from timesthrough.mirrors import roots as module
from timesthrough.mirrors.roots import (group_order, is_least, is_positive, is_root, least_simple, length, passed,
                                        root_word, roots, simple_of, turned, turned_roots, word_of)
from timesthrough.rows.moves import acts_alike, is_word, moved
from timesthrough.rows.rows import added, cubic, line_row, multiplied, point_row, product, square, with_cubic

MANY = {3: 8, 4: 20, 5: 40, 6: 72, 7: 126, 8: 240}
ORDERS = {3: 12, 4: 120, 5: 1920, 6: 51840, 7: 2903040, 8: 696729600}
LENGTHS = {3: 4, 4: 10, 5: 20, 6: 36, 7: 63, 8: 120}
NO_ROOTS = NO_ROWS + [cubic(3), (0, 1, 1, 0), (0, 2, -2, 0), (1, 1, 1, 0), (0, 0, 0, 0), (0, 1, -1) + (0,) * 7,
                      (1, 1, 1, 1) + (0,) * 6, (0, -1, 1) + (0,) * 14, FIVE, (0, 1, -1, True), [0, 1, -1, 0]]
NO_EIGHT = wrong_values() + [-3, 0, 1, 2, 9, 10, 16, "3", (3,)]
NO_SIMPLES = wrong_values() + [(-1,), (3,), (0, 1, 3), (0, True), (False,), ("0",), (None,), ((0,),), [0, 1], "01",
                               (0,) * 2001, (10 ** 200,), {0: 1}]


def simple_moves(n):
    return [("swap", at, at + 1) for at in range(n - 1)] + [("turn", 0, 1, 2)]


def opposite(row):
    return tuple(-entry for entry in row)


def root_of(n, letter):
    return (1, 1, 1, 1) + (0,) * (n - 3) if letter == n - 1 else (0,) * (letter + 1) + (-1, 1) + (0,) * (n - 2 - letter)


def positive(root):
    """[10.1] as it stands."""
    return root[0] > 0 if root[0] else [entry for entry in root if entry][0] == -1


def spread(n):
    """All maps of words of n points, with least simple words, by looking at all of them."""
    start = units(n)
    found, last = {start: ()}, [start]
    while last:
        new = []
        for rows in last:
            for letter, move in enumerate(simple_moves(n)):
                # The letter is done behind the word: so it acts on what the word made.
                other = tuple(by_hand(row, (move,)) for row in rows)
                if other not in found:
                    found[other] = found[rows] + (letter,)
                    new.append(other)
        last = new
    return found


ALL = {n: spread(n) for n in (3, 4, 5)}


class Roots(unittest.TestCase):

    def test_constant(self):
        self.assertEqual(module.MAX_LETTERS, 2000)

    def test_told(self):
        self.assertEqual([is_root((1, 1, 1, 1)), is_positive((0, 1, -1, 0)), len(roots(3))], [True, False, 8])
        self.assertEqual(turned((2, 1, 1, 0, 1), (1, 1, 1, 0, 1)), (1, 0, 0, 0, 0))
        self.assertEqual(roots(3), ((-1, -1, -1, -1), (0, -1, 0, 1), (0, -1, 1, 0), (0, 0, -1, 1), (0, 0, 1, -1),
                                    (0, 1, -1, 0), (0, 1, 0, -1), (1, 1, 1, 1)))

    def test_roots(self):
        for n, many in MANY.items():
            found = roots(n)
            self.assertEqual((len(found), list(found)), (many, sorted(set(found))))
            led, new = {root_of(n, 0), root_of(n, n - 1)}, [root_of(n, 0), root_of(n, n - 1)]
            while new:
                one = new.pop()
                for move in simple_moves(n):
                    other = by_hand(one, (move,))
                    if other not in led:
                        led.add(other)
                        new.append(other)
            self.assertEqual(set(found), led)
            for root in found:
                self.assertEqual((square(root), with_cubic(root), is_root(root)), (-2, 0, True))
                self.assertIs(is_positive(root), positive(root))
                self.assertIs(is_positive(opposite(root)), not positive(root))

    def test_is_root(self):
        for row in ((1, 1, 1, 1), (0, 1, -1, 0), (3, 2) + (1,) * 7, (-2,) + (-1,) * 6 + (0,)):
            for value in near_values(row):
                told = are_plain(value) and any(value in roots(n) for n in MANY)
                self.assertIs(is_root(value), told, value)
        for wrong in NO_ROOTS:
            self.assertIs(is_root(wrong), False)
        self.assertIs(is_root((0, GREATEST, -GREATEST, 0)), False)

    def test_turned(self):
        chance = random.Random(51)
        for _ in range(200):
            n = chance.randint(3, 8)
            row, root = random_row(chance, n), chance.choice(roots(n))
            found = turned(row, root)
            self.assertEqual(found, added(row, multiplied(product(row, root), root)))
            self.assertEqual((turned(found, root), turned(root, root)), (row, opposite(root)))
            self.assertEqual((square(found), with_cubic(found)), (square(row), with_cubic(row)))
        self.assertEqual(turned((GREATEST, GREATEST, 0, 0), (0, -1, 1, 0)), (GREATEST, 0, GREATEST, 0))
        too_many(self, 200, turned, (GREATEST, 0, 0, 0), (1, 1, 1, 1))
        too_many(self, 200, turned, (-GREATEST, 0, 0, 0), (-1, -1, -1, -1))

    def test_root_word(self):
        for n in MANY:
            for root in roots(n)[::1 if n < 7 else 5]:
                word = root_word(root)
                self.assertIs(is_word(n, word), True)
                self.assertEqual([by_hand(row, word) for row in units(n)], [turned(row, root) for row in units(n)])

    def test_group_order(self):
        self.assertEqual([group_order(n) for n in ORDERS], list(ORDERS.values()))
        self.assertEqual([len(ALL[n]) for n in ALL], [ORDERS[n] for n in ALL])
        for n in (4, 5, 6, 7, 8):
            # The words that keep a point row are those of one point less.
            self.assertEqual(group_order(n), EXCEPTIONAL[n] * group_order(n - 1))

    def test_wrong(self):
        refuses(self, is_positive, ((1, 1, 1, 1),), 0, InvalidRow, NO_ROOTS)
        refuses(self, root_word, ((1, 1, 1, 1),), 0, InvalidRow, NO_ROOTS)
        refuses(self, turned, (cubic(3), (1, 1, 1, 1)), 0, InvalidRow, NO_ROWS)
        refuses(self, turned, (cubic(3), (1, 1, 1, 1)), 1, InvalidRow, NO_ROOTS + [(1, 1, 1, 1, 0)])
        refuses(self, turned, ((GREATEST, 0, 0, 0), (1, 1, 1, 1)), 1, InvalidRow, NO_ROOTS + [(1, 1, 1, 1, 0)])
        for row in (cubic(9), cubic(16)):
            caught(self, InvalidRow, turned, row, (0, -1, 1, 0))
            caught(self, InvalidRow, turned, row, (0, -1, 1) + (0,) * (len(row) - 3))
        refuses(self, roots, (3,), 0, InvalidNumber, NO_EIGHT)
        refuses(self, group_order, (3,), 0, InvalidNumber, NO_EIGHT)


class Letters(unittest.TestCase):

    def test_all_maps(self):
        for n, maps in ALL.items():
            turns = {}
            for rows, simple in maps.items():
                word = word_of(n, simple)
                self.assertEqual(tuple(by_hand(row, word) for row in units(n)), rows)
                self.assertEqual(length(n, word), len(simple))
                least = least_simple(n, word)
                self.assertEqual(len(least), len(simple))
                self.assertEqual(tuple(by_hand(row, word_of(n, least)) for row in units(n)), rows)
                self.assertIs(is_least(n, simple), True)
                over = turned_roots(n, word)
                self.assertEqual((len(over), over), (len(simple), tuple(sorted(passed(n, simple)))))
                self.assertNotIn(over, turns)
                turns[over] = rows
            self.assertEqual(max(len(simple) for simple in maps.values()), LENGTHS[n])

    def test_turned_roots(self):
        chance = random.Random(52)
        for _ in range(80):
            n = chance.randint(3, 8)
            word = random_word(chance, n, 30)
            told = [root for root in roots(n) if positive(root) and not positive(by_hand(root, word))]
            self.assertEqual(turned_roots(n, word), tuple(told))
            self.assertEqual(length(n, word), len(told))

    def test_simple_of(self):
        chance = random.Random(53)
        for _ in range(120):
            n = chance.randint(3, 8)
            word = random_word(chance, n, 30)
            for call in (simple_of, least_simple):
                simple = call(n, word)
                self.assertTrue(isinstance(simple, tuple) and len(simple) <= 2000)
                self.assertTrue(all(letter in range(n) and not isinstance(letter, bool) for letter in simple))
                self.assertIs(acts_alike(n, word_of(n, simple), word), True)
            self.assertEqual(len(least_simple(n, word)), length(n, word))
            self.assertIs(is_least(n, least_simple(n, word)), True)
            self.assertEqual(set(passed(n, least_simple(n, word))), set(turned_roots(n, word)))

    def test_long_words(self):
        chance = random.Random(54)
        for n in (3, 8):
            word = tuple(chance.choice(simple_moves(n)) for _ in range(2000))
            self.assertIs(acts_alike(n, word_of(n, simple_of(n, word)), word), True)
            simple = tuple(chance.randrange(n) for _ in range(2000))
            self.assertIs(acts_alike(n, word_of(n, least_simple(n, word_of(n, simple))), word_of(n, simple)), True)
            self.assertEqual((len(passed(n, simple)), is_least(n, simple)), (2000, False))

    def test_greatest_lengths(self):
        # The word that makes each positive root to one that is not.
        for n, most in LENGTHS.items():
            simple = ()
            grown = True
            while grown:
                grown = False
                for letter in range(n):
                    if is_least(n, simple + (letter,)):
                        simple, grown = simple + (letter,), True
            self.assertEqual((len(simple), length(n, word_of(n, simple))), (most, most))
            self.assertEqual(turned_roots(n, word_of(n, simple)), tuple(root for root in roots(n) if positive(root)))

    def test_passed(self):
        chance = random.Random(55)
        for _ in range(150):
            n = chance.randint(3, 8)
            simple = tuple(chance.randrange(n) for _ in range(chance.randint(0, 12)))
            told = []
            for at, letter in enumerate(simple):
                root = root_of(n, letter)
                for ahead in simple[:at][::-1]:
                    root = by_hand(root, (simple_moves(n)[ahead],))
                told.append(root)
            self.assertEqual(passed(n, simple), tuple(told))
            apart = all(one not in (other, opposite(other)) for at, one in enumerate(told) for other in told[:at])
            self.assertIs(is_least(n, simple), apart)
            self.assertIs(length(n, word_of(n, simple)) == len(simple), apart)

    def test_word_of(self):
        for n in MANY:
            self.assertEqual(word_of(n, tuple(range(n))), tuple(simple_moves(n)))
            for letter in range(n):
                self.assertEqual(by_hand(root_of(n, letter), simple_moves(n)[letter:letter + 1]), opposite(root_of(n, letter)))
        self.assertEqual([word_of(5, ()), passed(5, ()), is_least(5, ())], [(), (), True])

    def test_settled_rows(self):
        chance = random.Random(56)
        for _ in range(100):
            n = chance.randint(3, 8)
            end = settled(random_row(chance, n))
            self.assertTrue(all(product(end, root) >= 0 for root in roots(n) if positive(root)))
        for row in ((2, 5, -1, 0, 3), (0, 0, 0, 0, 1), (1, 1, 1, 1, 1), (4, 0, 1, 2, 2), line_row(4), point_row(4, 0)):
            led, last, many = {row}, [row], 0
            while settled(row) not in led:
                many += 1
                last = [by_hand(one, (move,)) for one in last for move in simple_moves(4)]
                led.update(last)
                last = sorted(set(last))
            self.assertEqual(many, len([root for root in roots(4) if positive(root) and product(row, root) < 0]))

    def test_not_true(self):
        self.assertEqual([is_least(3, simple) for simple in ((0,), (0, 0), (0, 1), (0, 1, 0), (0, 1, 0, 1))],
                         [True, False, True, True, False])
        one, other = root_word((0, -1, 1, 0)), root_word((0, 0, -1, 1))
        self.assertIs(acts_alike(3, one + other, other + one), False)
        for one in roots(4):
            for other in roots(4):
                both = (root_word(one) + root_word(other), root_word(other) + root_word(one))
                self.assertIs(acts_alike(4, *both), product(one, other) in (0, 2, -2))

    def test_wrong(self):
        no_words = [wrong for wrong in NO_WORDS if not is_word(3, wrong)]
        for call in (simple_of, turned_roots, length, least_simple):
            refuses(self, call, (3, ()), 0, InvalidNumber, NO_EIGHT)
            refuses(self, call, (3, ()), 1, InvalidWord, no_words + [(("swap", 0, 3),)])
        for call in (word_of, passed, is_least):
            refuses(self, call, (3, ()), 0, InvalidNumber, NO_EIGHT)
            refuses(self, call, (3, ()), 1, InvalidWord, NO_SIMPLES)
        self.assertEqual(moved(cubic(3), word_of(3, (2,) * 2000)), cubic(3))


if __name__ == "__main__":
    unittest.main()
