import itertools
import random
import unittest

from tests.kit import FIVE, GREATEST, are_plain, caught, near_values, refuses, too_many, wrong_values
from tests.test_exceptional import EIGHT
from tests.test_free import orbit
from tests.test_moves import NO_WORDS, by_hand, random_word, units
from tests.test_roots import ALL, ORDERS, simple_moves
from tests.test_rows import random_row
from timesthrough.count.steps import settled
from timesthrough.errors import InvalidRow, InvalidWord, Refused
from timesthrough.mirrors.led import (does_lead, how_many, is_through_keepers, keeper_order, keepers, led, led_rows,
                                      parting, through_keepers)
from timesthrough.mirrors.roots import group_order, root_word, roots, turned
from timesthrough.rows.moves import is_word, moved
from timesthrough.rows.rows import added, cubic, line_row, multiplied, point_row, product, square, with_cubic

LINE, OTHER = (1, 0, 0, 0, 0, 0, 0, 0, 0), (3, 1, 1, 1, 1, 1, 1, 1, -1)


def judged(row, word, value):
    """[11.2]: whether turning about the keepers acts alike as the word."""
    if not are_plain(value) or not isinstance(value, tuple) or len(value) > 120:
        return False
    if not all(isinstance(root, tuple) and root in keepers(row) for root in value):
        return False
    for unit in units(len(row) - 1):
        there = unit
        for root in value:
            there = turned(there, root)
        if there != by_hand(unit, word):
            return False
    return True


def order_by_keepers(row):
    """How many maps keep the row, by all keepers alone.

    They make of one keeper just those to which chains of meetings lead from it; and those maps
    that keep it, too, are of the keepers that it meets 0 times.
    """
    left, order = list(keepers(row)), 1
    while left:
        near = [root for root in left if product(root, left[0]) != 0]
        order *= len([root for root in left if any(product(root, other) != 0 for other in near)])
        left = [root for root in left if product(root, left[0]) == 0]
    return order


def plain_rows(n):
    """For each letter a settled row that meets its root once, and the roots of the others 0 times."""
    zeros = (0,) * (n - 2)
    return [(1, 1, 0) + zeros, (2, 1, 1) + zeros] + [(3,) + (1,) * many + (0,) * (n - many) for many in range(3, n)] + [line_row(n)]


def rows_with_keepers(chance, many):
    found = []
    while len(found) < many:
        n = chance.randint(3, 8)
        row = (chance.randint(-1, 4),) + tuple(chance.choice((0, 1, 1, 2, -1)) for _ in range(n))
        found.append(moved(row, random_word(chance, n, 4)))
    return found


class Led(unittest.TestCase):

    def test_told(self):
        self.assertEqual([led(LINE, OTHER), parting(OTHER, LINE), how_many(LINE), how_many(OTHER)],
                         [None, (OTHER, LINE), 17280, 240])
        self.assertEqual(led_rows((1, 0, 0, 0)), ((1, 0, 0, 0), (2, 1, 1, 1)))
        self.assertEqual((square(LINE), with_cubic(LINE)), (square(OTHER), with_cubic(OTHER)))

    def test_led_by_looking(self):
        chance = random.Random(61)
        seen = {True: 0, False: 0}
        for _ in range(60):
            n = chance.choice((3, 4, 5))
            one = (chance.randint(-1, 3),) + tuple(chance.randint(-1, 2) for _ in range(n))
            rows = orbit(one)
            self.assertEqual(led_rows(one), tuple(sorted(rows)))
            self.assertEqual(how_many(one), len(rows))
            self.assertEqual(keeper_order(one), len([1 for images in ALL[n] if self.image(one, images) == one]))
            self.assertEqual(min(row[0] for row in rows), settled(one)[0])
            for other in chance.sample(sorted(rows), min(3, len(rows))) + [random_row(chance, n), one[:-1] + (one[-1] + 3,)]:
                word = led(one, other)
                told = other in rows
                self.assertIs(word is not None, told)
                self.assertEqual(parting(one, other), None if told else (settled(one), settled(other)))
                if told:
                    self.assertIs(is_word(n, word), True)
                    self.assertEqual(by_hand(one, word), other)
                    self.assertIs(does_lead(one, other, word), True)
                seen[told] += 1
        self.assertTrue(min(seen.values()) > 40)

    def image(self, row, images):
        """What a map makes of a row, by the images of the unit rows."""
        total = tuple(row[0] * entry for entry in images[0])
        for number, other in zip(row[1:], images[1:]):
            total = tuple(entry - number * part for entry, part in zip(total, other))
        return total

    def test_led_far(self):
        chance = random.Random(62)
        for _ in range(150):
            n = chance.randint(3, 8)
            one = random_row(chance, n)
            other = moved(one, random_word(chance, n, 30))
            word = led(one, other)
            self.assertIs(does_lead(one, other, word), True)
            self.assertEqual(by_hand(one, word), other)
            self.assertIs(parting(one, other), None)
            self.assertTrue(settled(one)[0] <= min(one[0], other[0]))

    def test_does_lead(self):
        chance = random.Random(63)
        seen = {True: 0, False: 0}
        for one in ((2, 1, 0, 0), FIVE, LINE, (3, 2, 1, 1, 0), (5, 3, 2, 1, 1, 1, 0, 0, 0)):
            n = len(one) - 1
            other = moved(one, random_word(chance, n, 6))
            word = led(one, other)
            for value in near_values(word) + [random_word(chance, n, 3) for _ in range(40)]:
                told = is_word(n, value) and by_hand(one, value) == other
                self.assertIs(does_lead(one, other, value), told)
                seen[told] += 1
            for wrong in [wrong for wrong in NO_WORDS if not is_word(8, wrong)]:
                self.assertIs(does_lead(one, one, wrong), False)
        self.assertTrue(min(seen.values()) > 10)
        swaps = (("swap", 0, 1),) * 2001
        self.assertEqual([does_lead(cubic(3), cubic(3), swaps[:many]) for many in (0, 2000, 2001)], [True, True, False])
        self.assertIs(does_lead(cubic(3), cubic(3), (("swap", 0, 3),)), False)

    def test_long(self):
        one = (GREATEST, 0, 0, 0)
        low = (-GREATEST, GREATEST, 0, 0)
        self.assertEqual(led(one, one), ())
        self.assertIs(led(one, low), None)
        too_many(self, 200, parting, one, low)
        too_many(self, 200, parting, low, one)
        self.assertIs(parting(low, low), None)
        self.assertIs(does_lead(low, (-GREATEST, 0, 0, GREATEST), led(low, (-GREATEST, 0, 0, GREATEST))), True)
        self.assertEqual(len(led_rows((GREATEST, GREATEST, GREATEST, GREATEST))), 2)
        too_many(self, 200, led_rows, (GREATEST, 0, 0, 0))
        self.assertEqual(how_many((GREATEST, 0, 0, 0)), 2)

    def test_wrong(self):
        for call in (led, parting):
            refuses(self, call, (FIVE, FIVE), 0, InvalidRow, EIGHT)
            refuses(self, call, (FIVE, FIVE), 1, InvalidRow, EIGHT + [cubic(5), cubic(7)])
            for n in (9, 10, 16):
                caught(self, InvalidRow, call, cubic(n), cubic(n))
        caught(self, InvalidRow, does_lead, cubic(9), cubic(9), ())
        refuses(self, does_lead, (FIVE, FIVE, ()), 0, InvalidRow, EIGHT)
        refuses(self, does_lead, (FIVE, FIVE, ()), 1, InvalidRow, EIGHT + [cubic(5), cubic(7)])


class Keepers(unittest.TestCase):

    def test_keepers(self):
        chance = random.Random(64)
        for row in rows_with_keepers(chance, 60):
            n = len(row) - 1
            found = keepers(row)
            self.assertEqual(found, tuple(root for root in roots(n) if product(row, root) == 0))
            self.assertEqual(found, tuple(root for root in roots(n) if turned(row, root) == row))
            self.assertEqual(how_many(row) * keeper_order(row), group_order(n))
            if how_many(row) <= 500:
                self.assertEqual(len(orbit(row)), how_many(row))

    def test_orders(self):
        for n, order in ORDERS.items():
            self.assertEqual((keeper_order(cubic(n)), how_many(cubic(n)), keeper_order((0,) * (n + 1))), (order, 1, order))
            low = (3 * n,) + tuple(range(n, 0, -1))
            self.assertEqual((keeper_order(low), how_many(low), keepers(low)), (1, order, ()))
        self.assertEqual([how_many(point_row(n, 0)) for n in ORDERS], [6, 10, 16, 27, 56, 240])
        self.assertEqual([how_many((1, 1) + (0,) * (n - 1)) for n in ORDERS], [3, 5, 10, 27, 126, 2160])
        self.assertEqual([how_many(line_row(n)) for n in ORDERS], [2, 5, 16, 72, 576, 17280])

    def test_orders_by_keepers(self):
        chance = random.Random(68)
        seen = set()
        for n in range(3, 9):
            for which in itertools.product((0, 1), repeat=n):
                if n > 6 and chance.random() > (0.25 if n == 7 else 0.15):
                    continue
                row = (0,) * (n + 1)
                for many, plain in zip(which, plain_rows(n)):
                    row = added(row, multiplied(many * chance.randint(1, 3), plain))
                row = moved(added(row, multiplied(chance.randint(-2, 2), cubic(n))), random_word(chance, n, 9))
                order = order_by_keepers(row)
                self.assertEqual((keeper_order(row), how_many(row)), (order, group_order(n) // order))
                seen.add(order)
        # 192 maps hang together around a dot with three neighbours, 1920 around one with a longer row.
        self.assertTrue(len(seen) > 20 and {1, 2, 4, 6, 192, 1920, 51840} <= seen, seen)

    def test_led_rows(self):
        for row in (line_row(7), point_row(8, 2), (1, 1, 0, 0, 0, 0, 0), (15, 5, 4, 3, 2, 1), (2, 1, 0, 0, 0, 0, 0)):
            found = led_rows(row)
            self.assertEqual((len(found), found), (how_many(row), tuple(sorted(orbit(row)))))
        self.assertEqual([how_many(row) for row in ((15, 5, 4, 3, 2, 1), (1, 1) + (0,) * 7)], [1920, 2160])
        for row in ((1, 1) + (0,) * 7, line_row(8), (24, 8, 7, 6, 5, 4, 3, 2, 1), (GREATEST, 1) + (0,) * 7):
            too_many(self, 2000, led_rows, row)

    def test_through_keepers(self):
        chance = random.Random(65)
        lengths = []
        for row in rows_with_keepers(chance, 80) + [cubic(8), cubic(7), (0,) * 7]:
            n = len(row) - 1
            some = keepers(row)
            word = ()
            for _ in range(chance.randint(0, 6) if some else 0):
                word = word + root_word(chance.choice(some))
            extra = random_word(chance, n, 5)
            word = extra + led(moved(row, extra), row) + word
            self.assertEqual(by_hand(row, word), row)
            found = through_keepers(row, word)
            lengths.append(len(found))
            self.assertIs(judged(row, word, found), True)
            self.assertIs(is_through_keepers(row, word, found), True)
            self.assertIs(is_through_keepers(row, word, found + found[:1]), False if found else True)
        self.assertTrue(max(lengths) > 5)

    def test_keeping_words_that_are_long(self):
        chance = random.Random(66)
        word = tuple(chance.choice(simple_moves(8)) for _ in range(2000))
        for row in (cubic(8), (0,) * 9):
            found = through_keepers(row, word)
            self.assertTrue(len(found) <= 120)
            self.assertIs(is_through_keepers(row, word, found), True)

    def test_is_through_keepers(self):
        seen = {True: 0, False: 0}
        chance = random.Random(67)
        for row, word in (((2, 1, 1, 0), (("swap", 0, 1),)), (cubic(4), (("turn", 0, 1, 2), ("swap", 1, 3))),
                          (FIVE, (("swap", 0, 1), ("swap", 3, 4))), (line_row(4), ()), ((3, 2, 1, 0), ())):
            some = keepers(row)
            found = through_keepers(row, word)
            values = near_values(found) + [tuple(-entry for entry in root) for root in found]
            values += [tuple(tuple(-entry for entry in root) for root in found), found + (FIVE,), found + ((1, 1, 1, 1),)]
            values += [tuple(chance.choice(some) for _ in range(chance.randint(0, 3))) for _ in range(60) if some]
            for value in values:
                told = judged(row, word, value)
                self.assertIs(is_through_keepers(row, word, value), told)
                seen[told] += 1
            for wrong in wrong_values():
                self.assertIs(is_through_keepers(row, word, wrong), False)
        self.assertTrue(min(seen.values()) > 5)
        root = (0, -1, 1, 0)
        self.assertEqual([is_through_keepers(cubic(3), (), (root,) * many) for many in (0, 1, 2, 118, 120, 122)],
                         [True, False, True, True, True, False])
        self.assertIs(is_through_keepers((1, 1, 0, 0), (), ((0, -1, 1, 0),) * 2), False)
        self.assertIs(is_through_keepers((1, 1, 0, 0), (), ((0, 0, -1, True),) * 2), False)
        self.assertIs(is_through_keepers((1, 1, 0, 0), (("swap", 1, 2),), ((0, 0, -1, 1),)), True)

    def test_not_true(self):
        # This word keeps the row, and is no exchange of points.
        row, word = (2, 1, 1, 0), (("turn", 0, 1, 2),)
        self.assertEqual(by_hand(row, word), row)
        self.assertIn(through_keepers(row, word), (((1, 1, 1, 1),), ((-1, -1, -1, -1),)))
        low = [other for other in led_rows((1, 1, 0, 0)) if other[0] == 1]
        self.assertEqual(low, [(1, 0, 0, 1), (1, 0, 1, 0), (1, 1, 0, 0)])

    def test_wrong(self):
        for call in (keepers, keeper_order, how_many, led_rows):
            refuses(self, call, (FIVE,), 0, InvalidRow, EIGHT)
        for call, args in ((through_keepers, (FIVE, ())), (is_through_keepers, (FIVE, (), ()))):
            refuses(self, call, args, 0, InvalidRow, EIGHT)
            wrongs = [wrong for wrong in NO_WORDS if not is_word(6, wrong)]
            refuses(self, call, args, 1, InvalidWord, wrongs + [(("swap", 0, 6),)])
        for row, word in ((FIVE, (("swap", 0, 5),)), (line_row(3), (("turn", 0, 1, 2),)), (multiplied(-1, FIVE), (("swap", 4, 5),))):
            self.assertEqual(caught(self, Refused, through_keepers, row, word).reason, ("moved",))
            for value in ((), None, ((0, -1, 1, 0),)):
                self.assertEqual(caught(self, Refused, is_through_keepers, row, word, value).reason, ("moved",))


if __name__ == "__main__":
    unittest.main()
