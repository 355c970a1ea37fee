import random
import unittest

from tests.kit import FIVE, GREATEST, caught, climbed, refuses, small_rows, too_many, wrong_values
from tests.test_apart import lots
from tests.test_moves import by_hand, climbing, random_word
from tests.test_roots import NO_EIGHT
from tests.test_rows import NO_ROWS
from timesthrough.change.changes import change_map, change_rows, change_word, is_change_row
from timesthrough.errors import InvalidNumber, InvalidRow
from timesthrough.lots.apart import line_of
from timesthrough.mirrors.led import how_many, led
from timesthrough.rows.exceptional import is_exceptional
from timesthrough.rows.moves import back, is_map, is_word, joined, map_of, moved
from timesthrough.rows.rows import cubic, line_row, multiplied, point_row, product, square, with_cubic


def walk(row, most=1900):
    """How the falling walk goes: "change", "other" or "far", as [15.1] says it."""
    turns = 0
    while True:
        if row[0] < 1 or min(row[1:]) < 0:
            return "other"
        places = sorted(range(1, len(row)), key=lambda at: -row[at])[:3]
        if row[0] >= sum(row[at] for at in places):
            return "change" if row == line_row(len(row) - 1) else "other"
        if turns == most:
            return "far"
        row = by_hand(row, (("turn",) + tuple(sorted(at - 1 for at in places)),))
        turns += 1


class Changes(unittest.TestCase):

    def test_told(self):
        self.assertEqual([is_change_row((2, 1, 1, 1)), is_change_row((5, 3, 3, 1, 1, 1, 1, 1, 1)), change_word((1, 1, 0, 0)),
                          moved((1, 0, 0, 0), change_word((2, 1, 1, 1)))], [True, False, None, (2, 1, 1, 1)])
        for row in ((3, 1, 1, 1, 1, 1, 1, 1, -1), (5, 3, 3, 1, 1, 1, 1, 1, 1)):
            self.assertEqual((square(row), with_cubic(row)), (1, 3))
            self.assertEqual((is_change_row(row), change_word(row), change_map(row)), (False, None, None))
        self.assertEqual((is_change_row((1, 0, 0, 0)), change_word((1, 0, 0, 0))), (True, ()))

    def judge(self, row):
        """All three functions at a row that is not too far."""
        told = walk(row) == "change"
        word, rows = change_word(row), change_map(row)
        self.assertIs(is_change_row(row), told, row)
        self.assertEqual((word is None, rows is None), (not told, not told))
        if told:
            n = len(row) - 1
            self.assertIs(is_word(n, word), True)
            self.assertEqual(by_hand(line_row(n), word), row)
            self.assertIs(is_map(rows), True)
            self.assertEqual(rows[0], row)
        return told

    def test_walks(self):
        chance = random.Random(111)
        seen = {True: 0, False: 0}
        for _ in range(500):
            n = chance.randint(3, 16)
            row = moved(line_row(n), random_word(chance, n, 12))
            if chance.random() < 0.5:
                at = chance.randint(0, n)
                row = row[:at] + (row[at] + chance.choice((-1, 1)),) + row[at + 1:]
            seen[self.judge(row)] += 1
        for row in small_rows(6, range(-1, 9), range(-1, 5)):
            if (square(row), with_cubic(row)) == (1, 3):
                seen[self.judge(row)] += 1
        self.assertTrue(min(seen.values()) > 100)

    def test_by_maps(self):
        chance = random.Random(112)
        for _ in range(150):
            n = chance.randint(3, 16)
            rows = map_of(n, random_word(chance, n, 12))
            self.assertIs(is_change_row(rows[0]), True)
            self.assertEqual((square(rows[0]), with_cubic(rows[0])), (1, 3))
            found = change_map(rows[0])
            self.assertEqual((is_map(found), found[0]), (True, rows[0]))
            self.assertEqual(back(found)[0][0], found[0][0])
            self.assertEqual(joined(found, back(found)), map_of(n, ()))
            if n <= 9:
                self.assertTrue(all(is_exceptional(row) for row in found[1:]))
            other = map_of(n, random_word(chance, n, 12))[0]
            degree = product(rows[0], other)
            self.assertTrue(degree >= 1)
            self.assertIs(degree == 1, rows[0] == other)
            there = moved(other, change_word(rows[0])[::-1])
            self.assertEqual((there[0], is_change_row(there)), (degree, True))

    def test_change_rows(self):
        for n, many in ((3, 2), (4, 5), (5, 16), (6, 72)):
            found = change_rows(n)
            self.assertEqual((len(found), found), (many, tuple(sorted(set(found)))))
            self.assertTrue(all(self.judge(row) for row in found))
            self.assertEqual(found, tuple(sorted({line_of(lot) for lot in lots(n, n)})))
        self.assertEqual([how_many(line_row(n)) for n in range(3, 9)], [2, 5, 16, 72, 576, 17280])

    def test_up_to_seven_points(self):
        chance = random.Random(113)
        for n in (3, 4, 5, 6, 7):
            for row in small_rows(n, range(1, 9), range(0, 4)):
                if (square(row), with_cubic(row)) == (1, 3):
                    row = row[:1] + tuple(chance.sample(row[1:], n))
                    self.assertIs(is_change_row(row), True)
                    self.assertIsNotNone(led(line_row(n), row))
        self.assertEqual([is_change_row(multiplied(t, line_row(7))) for t in (-1, 0, 1, 2)], [False, False, True, False])

    def test_far(self):
        for many in (1899, 1900, 1901, 1950):
            row = by_hand(line_row(9), climbing(9, many))
            if many <= 1900:
                self.assertIs(is_change_row(row), True)
                word = change_word(row)
                self.assertEqual((len(word) <= 2000, by_hand(line_row(9), word)), (True, row))
                self.assertEqual(change_map(row)[0], row)
            else:
                self.assertIs(is_change_row(row), False)
                too_many(self, 2000, change_word, row)
                too_many(self, 2000, change_map, row)
        # Rows that are no change rows may be too far as well.
        for start in (point_row(9, 8), (1, 1) + (0,) * 8, (4,) + (1,) * 9):
            for many in (1900, 1901, 1940):
                row = climbed(start, many)
                self.assertEqual(walk(row) == "far", many > 1900)
                self.assertIs(is_change_row(row), False)
                if many > 1900:
                    too_many(self, 2000, change_word, row)
                    too_many(self, 2000, change_map, row)
                else:
                    self.assertEqual((change_word(row), change_map(row)), (None, None))
        # A number below 0 on the way, where the walk is long: no change row.
        far = by_hand(line_row(9), climbing(9, 1950))
        too_many(self, 2000, change_word, far + (0,))
        for row in (far + (-1,), far[:1] + (-1,) + far[1:], far[:5] + (-2,) + far[5:]):
            self.assertEqual((is_change_row(row), change_word(row), change_map(row)), (False, None, None))
        # The walk of this row never ends, and comes to a degree below 1.
        low = climbed((0, 1, -1) + (0,) * 7, 1000)
        self.assertEqual((walk(low, 10 ** 6), is_change_row(low), change_word(low)), ("other", False, None))
        far = climbed((0, 1, -1) + (0,) * 7, 3000)
        self.assertEqual(walk(far), "far")
        too_many(self, 2000, change_word, far)

    def test_sixteen_points(self):
        for many in (1, 5, 20, 100):
            row = by_hand(line_row(16), climbing(16, many))
            self.judge(row)
        row = line_row(16)
        word = climbing(16, 1000)
        rows = [row]
        for move in word:
            row = by_hand(row, (move,))
            if row[0] > GREATEST:
                break
            rows.append(row)
        self.assertTrue(len(rows) > 100 and len(str(rows[-1][0])) >= 199)
        self.judge(rows[-1])
        self.assertEqual(change_map(rows[-1])[0], rows[-1])

    def test_long(self):
        for row in ((GREATEST,) * 4, (GREATEST, 0, 0, 0), (1, 0, 0, GREATEST), (GREATEST, GREATEST - 1) + (1,) * 15):
            told = walk(row)
            self.assertIs(is_change_row(row), False)
            if told == "far":
                too_many(self, 2000, change_word, row)
            else:
                self.assertIs(change_word(row), None)
        # These curves have all but one of their times at one point.
        for n in (7, 15):
            row = ((n + 1) // 2, (n - 1) // 2) + (1,) * (n - 1)
            self.assertIs(is_change_row(row), True)
            self.assertIs(is_change_row(row + (0,)), True)
            self.assertIs(is_change_row(row + (-1,)), False)

    def test_wrong(self):
        for wrong in NO_ROWS + [(True, 0, 0, 0), (1, 0, 0, False), [1, 0, 0, 0], FIVE, cubic(9)]:
            self.assertIs(is_change_row(wrong), False)
        for call in (change_word, change_map):
            refuses(self, call, (FIVE,), 0, InvalidRow, NO_ROWS)
        refuses(self, change_rows, (3,), 0, InvalidNumber, NO_EIGHT + [7, 8])
        caught(self, InvalidRow, change_word, (1,) + (0,) * 17)


if __name__ == "__main__":
    unittest.main()
