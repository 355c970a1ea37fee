import random
import unittest

from tests.kit import GREATEST, caught, climbed, refuses, too_many, wrong_values
from tests.test_rows import NO_MANY, NO_ROWS, random_row
from timesthrough.errors import InvalidMap, InvalidNumber, InvalidRow, InvalidWord
from timesthrough.rows import moves as module
from timesthrough.rows.moves import acts_alike, back, is_map, is_word, joined, map_of, moved, moved_by, undone
from timesthrough.rows.rows import added, counting, line_row, point_row, product, with_cubic

TURN = ("turn", 0, 1, 2)
SWAP = ("swap", 0, 1)
NO_MOVES = [
    ("swap", 1, 0), ("swap", 1, 1), ("swap", 0), ("swap", 0, 1, 2), ("swap", -1, 0), ("swap", 0, 3), ("turn", 0, 1),
    ("turn", 0, 2, 1), ("turn", 0, 0, 1), ("turn", 0, 1, 3), ("turn", 0, 1, 2, 3), ("turn", 1, 0, 2), ("off", 0),
    ("Swap", 0, 1), ("swop", 0, 1), ["swap", 0, 1], ("swap", "0", "1"), ("swap", 0, True), ("swap", False, 1),
    ("swap", 0, None), ("turn", 0, 1, (2,)), (), ("turn",), (0, 1, 2), (None, 0, 1), (("swap",), 0, 1), "swap",
    ("turn", 0, 1, True), ("turn", False, 1, 2), ("swap", 0, 10 ** 200), ("swap", 0, [1]), {0: "swap"}, 5, None]
NO_WORDS = wrong_values() + [(move,) for move in NO_MOVES] + [
    [SWAP], SWAP, TURN, (SWAP, TURN, None), (SWAP,) * 2001, (SWAP, ("turn", 0, 1))]


def random_word(chance, n, most=12):
    word = []
    for _ in range(chance.randint(0, most)):
        size = chance.choice((2, 3, 3))
        word.append(("swap" if size == 2 else "turn",) + tuple(sorted(chance.sample(range(n), size))))
    return tuple(word)


def by_hand(row, word):
    entries = list(row)
    for move in word:
        d, spots = entries[0], [index + 1 for index in move[1:]]
        numbers = [entries[spot] for spot in spots]
        if move[0] == "swap":
            entries[spots[0]], entries[spots[1]] = numbers[1], numbers[0]
        else:
            entries[0] = 2 * d - sum(numbers)
            for spot, number in zip(spots, numbers):
                entries[spot] = d - sum(numbers) + number
    return tuple(entries)


def climbing(n, many):
    """Turns that make the degree of (1, 0, .., 0) greater and greater."""
    word = []
    row = line_row(n)
    for _ in range(many):
        least = sorted(range(1, n + 1), key=lambda at: (row[at], at))[:3]
        word.append(("turn",) + tuple(sorted(at - 1 for at in least)))
        row = by_hand(row, word[-1:])
    return tuple(word)


def units(n):
    return (line_row(n),) + tuple(point_row(n, index) for index in range(n))


class Words(unittest.TestCase):

    def test_constant(self):
        self.assertEqual(module.MAX_WORD, 2000)

    def test_is_word(self):
        for good in ((), (SWAP,), (TURN,), (SWAP, TURN, ("swap", 1, 2)), (SWAP,) * 2000):
            self.assertIs(is_word(3, good), True)
        for wrong in NO_WORDS:
            self.assertIs(is_word(3, wrong), False)
        for n in range(3, 17):
            self.assertIs(is_word(n, (("swap", n - 2, n - 1), ("turn", n - 3, n - 2, n - 1))), True)
            self.assertIs(is_word(n, (("swap", n - 2, n),)), False)
            self.assertIs(is_word(n, (("turn", 0, 1, n),)), False)
        refuses(self, is_word, (3, ()), 0, InvalidNumber, NO_MANY)

    def test_undone(self):
        self.assertEqual(undone((SWAP, TURN, ("swap", 3, 15))), (("swap", 3, 15), TURN, SWAP))
        self.assertEqual(undone(()), ())
        self.assertEqual(len(undone((TURN,) * 2000)), 2000)
        wrongs = [wrong for wrong in NO_WORDS if wrong not in [(("swap", 0, 3),), (("turn", 0, 1, 3),)]]
        refuses(self, undone, ((),), 0, InvalidWord, wrongs + [(("swap", 0, 16),), (("turn", 0, 1, 16),)])

    def test_moved(self):
        self.assertEqual(moved((2, 1, 1, 1, 1, 1), (TURN,)), (1, 0, 0, 0, 1, 1))
        self.assertEqual(moved((0, 0, 0, -1), (TURN,)), (1, 1, 1, 0))
        self.assertEqual(moved((7, 1, 2, 3, 4), (("swap", 0, 3),)), (7, 4, 2, 3, 1))
        self.assertEqual(moved((7, 1, 2, 3, 4), (("swap", 1, 2), ("turn", 0, 1, 3))), (6, 0, 2, 2, 3))
        self.assertEqual(moved((7, 1, 2, 3, 4), ()), (7, 1, 2, 3, 4))

    def test_words_keep(self):
        chance = random.Random(13)
        for _ in range(200):
            n = chance.randint(3, 16)
            one, other, word = random_row(chance, n), random_row(chance, n), random_word(chance, n)
            left, right = moved(one, word), moved(other, word)
            self.assertEqual(left, by_hand(one, word))
            self.assertEqual(product(left, right), product(one, other))
            self.assertEqual(with_cubic(left), with_cubic(one))
            self.assertEqual(counting(left), counting(one))
            self.assertEqual(moved(left, undone(word)), one)
            self.assertEqual(moved(added(one, other), word), added(left, right))

    def test_long_in_between(self):
        row = (GREATEST, -GREATEST, -GREATEST, -GREATEST)
        self.assertEqual(moved(row, (TURN, TURN)), row)
        self.assertEqual(moved(row, (TURN,) * 2000), row)
        too_many(self, 200, moved, row, (TURN,))
        half = (10 ** 200 // 2, 0, 0, 0)
        too_many(self, 200, moved, half, (TURN,))
        self.assertEqual(moved((10 ** 200 // 2 - 1, 0, 0, 0), (TURN,))[0], 10 ** 200 - 2)

    def test_long_words(self):
        word = climbing(16, 1000)
        row = (5,) + (1,) * 16
        self.assertEqual(moved(row, word + undone(word)), row)
        too_many(self, 200, moved, row, word + word)
        too_many(self, 200, map_of, 16, word + word)
        self.assertIs(acts_alike(16, word + word, word + word), True)
        self.assertIs(acts_alike(16, word + undone(word), ()), True)
        self.assertIs(acts_alike(16, word, undone(word)), False)

    def test_wrong(self):
        refuses(self, moved, ((3, 1, 1, 1), ()), 0, InvalidRow, NO_ROWS)
        refuses(self, moved, ((3, 1, 1, 1), ()), 1, InvalidWord, NO_WORDS)
        caught(self, InvalidWord, moved, (3, 1, 1, 1), (("swap", 0, 3),))
        self.assertEqual(moved((3, 1, 1, 1, 0), (("swap", 0, 3),)), (3, 0, 1, 1, 1))
        refuses(self, map_of, (3, ()), 0, InvalidNumber, NO_MANY)
        refuses(self, map_of, (3, ()), 1, InvalidWord, NO_WORDS)
        refuses(self, acts_alike, (3, (), ()), 0, InvalidNumber, NO_MANY)
        refuses(self, acts_alike, (3, (), ()), 1, InvalidWord, NO_WORDS)
        refuses(self, acts_alike, (3, (), ()), 2, InvalidWord, NO_WORDS)


class Maps(unittest.TestCase):

    def setUp(self):
        self.turn = ((2, 1, 1, 1), (1, 0, 1, 1), (1, 1, 0, 1), (1, 1, 1, 0))
        self.wrongs = wrong_values() + [
            (), units(3)[:3], units(3) + units(3)[:1], list(units(3)), (units(3)[1],) + units(3)[1:],
            units(3)[:2] + units(3)[1:2] + units(3)[3:], tuple(list(row) for row in units(3)),
            units(3)[:3] + ((0, 0, 0, 1),), units(3)[:3] + ((0, 0, 0, True),), ((1, 1, 0, 0),) + units(3)[1:],
            units(3)[:3] + ((0, 0, 0),), units(3)[:3] + ((0, 0, 0, -1, 0),), units(3)[:3] + (None,), units(4)[:4],
            ((-1, 0, 0, 0), (0, 1, 0, 0), (0, 0, 1, 0), (0, 0, 0, 1)), self.turn[:3] + ((1, 1, 1, 10 ** 200),),
            (5, 5, 5, 5), units(2 + 1)[1:] + units(3)[:1]]

    def test_printed(self):
        self.assertEqual(map_of(3, (TURN,)), self.turn)
        self.assertEqual(map_of(3, ()), ((1, 0, 0, 0), (0, -1, 0, 0), (0, 0, -1, 0), (0, 0, 0, -1)))

    def test_is_map(self):
        self.assertIs(is_map(self.turn), True)
        self.assertIs(is_map(units(3)), True)
        self.assertIs(is_map(units(16)), True)
        for wrong in self.wrongs + [units(16) + ((0,) * 17,)]:
            self.assertIs(is_map(wrong), False, repr(wrong)[:80])
        for n in (1, 2, 17):
            row, zeros = (1,) + (0,) * n, (0,) * n
            points = tuple((0,) + zeros[:at] + (-1,) + zeros[at + 1:] for at in range(n))
            self.assertIs(is_map((row,) + points), False)

    def test_map_that_no_word_has(self):
        rows = tuple((-6,) + (-2,) * at + (-1,) + (-2,) * (9 - at) for at in range(10))
        ten = ((-19,) + (-6,) * 10,) + rows
        self.assertIs(is_map(ten), True)
        self.assertIs(is_map(back(ten)), True)
        self.assertEqual(joined(ten, back(ten)), units(10))
        self.assertIs(is_map(((-19,) + (-6,) * 10,) + rows[:9] + rows[:1]), False)

    def test_maps_of_words(self):
        chance = random.Random(14)
        for _ in range(120):
            n = chance.randint(3, 16)
            one, other, row = random_word(chance, n), random_word(chance, n), random_row(chance, n)
            told = map_of(n, one)
            self.assertIs(is_map(told), True)
            self.assertEqual(told, tuple(moved(unit, one) for unit in units(n)))
            self.assertEqual(moved_by(row, told), moved(row, one))
            self.assertEqual(map_of(n, one + other), joined(told, map_of(n, other)))
            self.assertEqual(back(told), map_of(n, undone(one)))
            self.assertEqual(moved_by(moved_by(row, told), back(told)), row)
            for i, unit in enumerate(units(n)):
                self.assertEqual(back(told)[i], tuple(product(unit, line) for line in told))
            self.assertIs(acts_alike(n, one, other), told == map_of(n, other))
            self.assertIs(acts_alike(n, one + other, one + other + (TURN, TURN)), True)

    def test_not_true(self):
        self.assertIs(acts_alike(3, (TURN, TURN), ()), True)
        left, right = ("turn", 0, 1, 2), ("turn", 0, 1, 3)
        self.assertIs(acts_alike(5, (left, right), (right, left)), False)
        self.assertIs(acts_alike(5, (left, ("turn", 0, 3, 4)), (("turn", 0, 3, 4), left)), True)
        self.assertIs(acts_alike(6, (left, ("turn", 3, 4, 5)), (("turn", 3, 4, 5), left)), False)
        self.assertIs(acts_alike(4, (SWAP, ("swap", 2, 3)), (("swap", 2, 3), SWAP)), True)

    def test_long(self):
        too_many(self, 200, moved_by, (GREATEST, -1, 0, 0), self.turn)
        self.assertEqual(moved_by((GREATEST, GREATEST, 0, 0), self.turn), (GREATEST, GREATEST, 0, 0))
        word = climbing(16, 1000)
        size = next(many for many in range(0, 1001, 10) if max(map_of(16, word[:many])[0]) >= 10 ** 120)
        told = map_of(16, word[:size])
        too_many(self, 200, joined, told, told)
        self.assertEqual(joined(told, back(told)), units(16))

    def test_nine_points_grow_slowly(self):
        row = climbed((1,) + (0,) * 9, 2000)
        self.assertTrue(row[0] < 10 ** 8)

    def test_wrong(self):
        good = ((3, 1, 1, 1), units(3))
        refuses(self, moved_by, good, 0, InvalidRow, NO_ROWS)
        refuses(self, moved_by, good, 1, InvalidMap, self.wrongs + [units(4)])
        refuses(self, joined, (units(3), units(3)), 0, InvalidMap, self.wrongs)
        refuses(self, joined, (units(3), units(3)), 1, InvalidMap, self.wrongs + [units(4), units(16)])
        refuses(self, back, (units(3),), 0, InvalidMap, self.wrongs)


if __name__ == "__main__":
    unittest.main()
