import random
import unittest
import unittest.mock

from tests.kit import (FIVE, FOUR, GREATEST, LINES, SEXTIC, caught, climbed, refuses, small_rows, too_many,
                       wrong_values)
from tests.test_moves import NO_MOVES, by_hand, random_word
from tests.test_rows import NO_ROWS, random_row
from timesthrough.count import steps as module
from timesthrough.count.counts import bar, count, has_curves, is_bar
from timesthrough.count.free import free_word, has_base_point, is_free, is_free_word, is_met, is_one_curve, met, pencil_of
from timesthrough.count.parts import is_parts, met_below, parts
from timesthrough.count.steps import is_settled, is_standard, is_steps, settled, settling, steps, walked
from timesthrough.errors import InvalidOperation, InvalidRow, Refused
from timesthrough.rows.moves import is_word, moved, undone
from timesthrough.rows.rows import counting, cubic, line_row, multiplied, point_row, with_cubic

FEW = NO_ROWS + [(3,) + (1,) * 10, (3,) + (1,) * 16, (0,) * 11]
NO_STEPS = wrong_values() + [
    [], [("turn", 0, 1, 2)], ("turn", 0, 1, 2), ("off", 0), (("off", 0, 1),), (("off",),), (("off", True),),
    (("off", -1),), (("off", "0"),), (("off", None),), (("of", 0),), (["off", 6],), (("swap", 0, 1),), ((),),
    (("turn", 0, 1),), (("turn", 2, 1, 0),), (("turn", 0, 1, True),), (("turn", 0, 1, 10 ** 200),), (None,), (5,)]


def stands(row):
    """[0.11] by all triples."""
    numbers = row[1:]
    triples = [numbers[i] + numbers[j] + numbers[k] for i in range(len(numbers)) for j in range(i) for k in range(j)]
    return min(numbers) >= 0 and row[0] >= max(triples)


def step_by_hand(row, value):
    """The row to which steps lead, None if one of them cannot be done."""
    for step in value:
        if step[0] == "off":
            if row[step[1] + 1] >= 0:
                return None
            row = row[:step[1] + 1] + (0,) + row[step[1] + 2:]
        else:
            row = by_hand(row, (step,))
    return row


def turns_of(word):
    return len([move for move in word if move[0] == "turn"])


def turns_down(row, last=False):
    """How many turns the falling walk has; the last points are taken of equal ones, if told."""
    many = 0
    while True:
        places = sorted(range(1, len(row)), key=lambda at: (-row[at], -at if last else at))[:3]
        if row[0] >= sum(row[at] for at in places):
            return many
        row = by_hand(row, (("turn",) + tuple(at - 1 for at in sorted(places)),))
        many += 1


class Standard(unittest.TestCase):

    def test_constant(self):
        self.assertEqual(module.MAX_STEPS, 2000)

    def test_is_standard(self):
        for row, told in (((3, 1, 1, 1), True), ((2, 1, 1, 1), False), ((0, 0, 0, 0), True), ((0, 0, 0, -1), False),
                          ((5, -1, 0, 0), False), ((4, 1, 1, 1, 2), True), ((3, 1, 1, 1, 2), False),
                          (cubic(9), True), ((2, 0, 1, 0, 1, 0, 0, 0, 0, 0), True), ((-1, 0, 0, 0), False),
                          (FOUR, False), (FIVE, False), (LINES, False), (SEXTIC, False)):
            self.assertIs(is_standard(row), told, row)

    def test_is_settled(self):
        for row, told in (((3, 1, 1, 1), True), ((2, 1, 1, 1), False), ((4, 1, 2, 1), False), ((5, 2, 1, 1), True),
                          ((0, 0, 0, -1), True), ((0, 0, -1, 0), False), ((-3, -1, -1, -1, -5), True),
                          ((-4, -1, -1, -1, -5), False), ((1, 1, 1, -1, -1), True), ((1, 1, 1, 0), False)):
            self.assertIs(is_settled(row), told, row)

    def test_small_rows(self):
        chance = random.Random(15)
        for _ in range(500):
            n = chance.randint(3, 9)
            row = (chance.randint(0, 9),) + tuple(chance.randint(-1, 3) for _ in range(n))
            self.assertIs(is_standard(row), stands(row))
            falls = all(one >= other for one, other in zip(row[1:], row[2:]))
            self.assertIs(is_settled(row), falls and row[0] >= row[1] + row[2] + row[3])
            if stands(row):
                self.assertIs(is_settled(row[:1] + tuple(sorted(row[1:], reverse=True))), True)

    def test_great(self):
        third = GREATEST // 3
        self.assertIs(is_standard((GREATEST, third, third, third)), True)
        self.assertIs(is_standard((GREATEST - 1, third, third, third)), False)
        self.assertIs(is_settled((-GREATEST, 0, 0, -GREATEST)), True)

    def test_wrong(self):
        for call in (is_standard, is_settled, settled, settling, steps):
            refuses(self, call, (FIVE,), 0, InvalidRow, FEW)
        for call in (is_steps, walked):
            refuses(self, call, (FIVE, ()), 0, InvalidRow, FEW)


class Settled(unittest.TestCase):

    def test_printed(self):
        self.assertEqual([settled(FIVE), settled(FOUR)], [(0, 0, 0, 0, 0, 0, -1), (0, 0, 0, 0, 0, 0, -2)])

    def test_by_words(self):
        chance = random.Random(16)
        for _ in range(300):
            n = chance.randint(3, 9)
            row = random_row(chance, n)
            if n == 9 and with_cubic(row) <= 0:
                self.assertEqual(caught(self, Refused, settled, row).reason, ("cubic",))
                continue
            end, word = settled(row), settling(row)
            self.assertIs(is_settled(end), True)
            self.assertIs(is_word(n, word), True)
            self.assertEqual(moved(row, word), end)
            self.assertEqual(settled(end), end)
            self.assertEqual(settled(moved(row, random_word(chance, n))), end)

    def test_settled_rows_are_not_led_to_one_another(self):
        ends = [row for row in small_rows(4, range(-3, 4), (-2, -1, 0, 1, 2)) if is_settled(row)]
        self.assertTrue(len(ends) > 50)
        for row in ends:
            self.assertEqual(settled(row), row)

    def test_few_turns_to_eight_points(self):
        chance = random.Random(17)
        turns = [turns_of(settling((-3 * n,) + tuple(range(-n, 0)))) for n in range(3, 9)]
        self.assertTrue(turns == sorted(turns) and turns[-1] <= 120)
        for _ in range(200):
            n = chance.randint(3, 8)
            row = (-chance.randint(0, 10 ** 6),) + tuple(chance.randint(0, 10 ** 6) for _ in range(n))
            word = settling(row)
            self.assertEqual(turns_of(word), turns_down(row))
            self.assertEqual(turns_of(word), turns_down(row, last=True))
            self.assertTrue(turns_of(word) <= turns[n - 3])

    def test_nine_points(self):
        for row in (cubic(9), multiplied(-2, cubic(9)), (0,) + (GREATEST,) * 9, (0,) * 10, (0, 1, -1, 0, 0, 0, 0, 0, 0, 0), (-1,) + (0,) * 9,
                    (1,) + (1,) * 9, (GREATEST,) + (GREATEST,) * 9):
            for call in (settled, settling):
                self.assertEqual(caught(self, Refused, call, row).reason, ("cubic",))
        self.assertEqual(settled((3, 1, 1, 1, 1, 1, 1, 1, 1, 0)), (3, 1, 1, 1, 1, 1, 1, 1, 1, 0))

    def test_far_walks(self):
        for start in (point_row(9, 8), line_row(9), (1, 2) + (-1,) * 8):
            end = settled(start)
            for many in (1, 2, 3, 100, 1899, 1900):
                row = climbed(start, many)
                self.assertEqual(turns_down(row), many + turns_down(start))
            near = climbed(start, 1900 - turns_down(start))
            self.assertEqual(settled(near), end)
            word = settling(near)
            self.assertEqual((moved(near, word), turns_of(word)), (end, 1900))
            self.assertTrue(len(word) <= 2000)
            far = climbed(start, 1901 - turns_down(start))
            for call in (settled, settling, steps, count, has_curves):
                too_many(self, 2000, call, far)
        great = (10 ** 150 + 1,) + (10 ** 150 // 3,) * 9
        too_many(self, 2000, settled, (0, GREATEST, -GREATEST, -1, 0, 0, 0, 0, 0, 0))
        self.assertEqual(settled((10 ** 199,) + (0,) * 9), (10 ** 199,) + (0,) * 9)
        self.assertTrue(is_settled(settled(great)))

    def test_clearly_far(self):
        told = [(3000, 2000) + (1000,) * 7 + (-1,), (3000, 2000) + (1000,) * 6 + (999, 0), (0, GREATEST, -GREATEST) + (-1,) * 2 + (0,) * 5,
                (10 ** 199 + 1, -10 ** 199) + (5 * 10 ** 198,) * 8]
        for row in told:
            self.assertGreater(with_cubic(row), 0)
            # No walk is begun to tell that these are too far.
            with unittest.mock.patch.object(module, "_ranked", side_effect=AssertionError):
                for call in (settled, settling, steps, count, has_curves, bar, parts, met_below, is_free, met, free_word, is_one_curve,
                             pencil_of, has_base_point):
                    too_many(self, 2000, call, row)
                too_many(self, 2000, is_parts, row, None)
                too_many(self, 2000, is_free_word, row, ())
                too_many(self, 2000, is_met, row, cubic(9))
                self.assertIs(is_bar(multiplied(-1, point_row(9, 0)), row), False)

    def test_far_as_walks_tell(self):
        chance = random.Random(18)
        verdicts = []
        for _ in range(120):
            size, meeting = chance.choice((150, 600, 900, 1200, 2000)), chance.randint(1, 4)
            numbers = [chance.randint(-size, size) for _ in range(9)]
            if chance.random() < 0.5:
                numbers = numbers[:2] + [numbers[2] + chance.randint(-2, 2) for _ in range(7)]
            numbers[chance.randint(0, 8)] += -(sum(numbers) + meeting) % 3
            row = ((sum(numbers) + meeting) // 3,) + tuple(numbers)
            degree, falling, many = row[0], sorted(numbers, reverse=True), 0
            while degree < sum(falling[:3]) and many <= 1900:
                change = degree - sum(falling[:3])
                degree, falling = degree + change, sorted([number + change for number in falling[:3]] + falling[3:], reverse=True)
                many += 1
            verdicts.append(many > 1900)
            if many > 1900:
                too_many(self, 2000, settled, row)
            else:
                self.assertEqual(settled(row), (degree,) + tuple(falling))
        self.assertTrue(20 < sum(verdicts) < 100)

    def test_long_settled_rows(self):
        row = (-GREATEST,) + (GREATEST,) * 8
        for call in (settled, settling):
            too_many(self, 200, call, row)
        self.assertEqual(count(row), 0)
        small = (-GREATEST // 10 ** 4,) + (GREATEST // 10 ** 4,) * 8
        self.assertIs(is_settled(settled(small)), True)
        self.assertEqual(moved(small, settling(small)), settled(small))
        self.assertEqual(settled(multiplied(10 ** 199, FIVE)), (0, 0, 0, 0, 0, 0, -10 ** 199))


class Steps(unittest.TestCase):

    def test_printed(self):
        told = (("turn", 0, 1, 2), ("turn", 0, 3, 4), ("off", 0))
        self.assertEqual(walked(FOUR, told), (0, 0, 0, 0, 0, 0, 0))
        self.assertIs(is_steps(FOUR, told), True)
        self.assertIs(is_steps(FOUR, told[:2]), False)
        self.assertEqual(walked(FOUR, told[:2]), (0, -2, 0, 0, 0, 0, 0))

    def check(self, row):
        found = steps(row)
        self.assertTrue(len(found) <= 2000)
        end = step_by_hand(row, found)
        self.assertTrue(stands(end), row)
        self.assertIs(is_steps(row, found), True)
        self.assertEqual(walked(row, found), end)
        self.assertEqual(count(row), counting(end))
        return found

    def test_any_steps(self):
        chance = random.Random(18)
        seen = {True: 0, False: 0}
        for _ in range(600):
            n = chance.randint(3, 9)
            row = (chance.randint(-1, 12),) + tuple(chance.randint(-3, 5) for _ in range(n))
            seen[has_curves(row)] += 1
            if has_curves(row):
                self.check(row)
            else:
                self.assertEqual(caught(self, Refused, steps, row).reason, ("none",))
        self.assertTrue(min(seen.values()) > 100)

    def test_told_rows(self):
        for row in (FIVE, FOUR, LINES, SEXTIC, (0, 0, 0, 0), (0, -5, -1, 0), (1, 1, 1, -1), (1, 1, -1, -1), (5, 5, -2, -2),
                    (2, 2, 2, 0), (7, 7, -1, -1, -1, -1, -1, -1, -1, -1), (0, -1, -1, -1, -1, -1, -1, -1, -1, -1),
                    (1, 1, 1, -1, -1, -1, -1, -1, -1, -1), cubic(9), multiplied(7, cubic(9)), (0,) * 10):
            self.check(row)
        for row in ((-1, 0, 0, 0), (1, 2, 0, 0), (50, 51, 0, 0), multiplied(-1, cubic(9)), (0, 1, -1, 0),
                    (0, 1, -1, 0, 0, 0, 0, 0, 0, 0), (3, 2, 1, 1, 1, 1, 1, 1, 1, 1), (-1,) + (-1,) * 9):
            self.assertEqual(caught(self, Refused, steps, row).reason, ("none",))

    def test_far(self):
        for start in (point_row(9, 8), (1, 1, 1, -1, -1, -1, 0, 0, 0, 0), (1, 1, 0, -3, -2, -1, -1, -1, -1, -1)):
            start = settled(start)
            self.check(climbed(start, 1900))
            too_many(self, 2000, steps, climbed(start, 1901))
        without = (1, 2) + (-1,) * 8
        self.assertEqual(caught(self, Refused, steps, climbed(without, 1900)).reason, ("none",))
        too_many(self, 2000, steps, climbed(without, 1901))

    def test_great(self):
        for row in (FIVE, FOUR, SEXTIC, (9, 4, 3, 3, 2, 2, 2, 1, 1, 1), cubic(9)):
            for factor in (10 ** 198, 10 ** 199 - 7):
                if max(row) * factor <= GREATEST:
                    self.check(multiplied(factor, row))

    def test_is_steps(self):
        chance = random.Random(19)
        seen = {True: 0, False: 0, None: 0}
        for _ in range(8000):
            row = (chance.randint(0, 3),) + tuple(chance.randint(-2, 2) for _ in range(4))
            value = ()
            for _ in range(chance.randint(0, 3)):
                value = value + chance.choice((
                    (("off", chance.randint(0, 3)),), (("turn",) + tuple(sorted(chance.sample(range(4), 3))),)))
            end = step_by_hand(row, value)
            told = end is not None and stands(end)
            self.assertIs(is_steps(row, value), told, (row, value))
            if end is None:
                caught(self, InvalidOperation, walked, row, value)
            else:
                self.assertEqual(walked(row, value), end)
            seen[None if end is None else told] += 1
        self.assertTrue(min(seen.values()) > 50, seen)

    def test_steps_for_long(self):
        row = (6, 2, 2, 2)
        turn = ("turn", 0, 1, 2)
        self.assertIs(is_steps(row, ()), True)
        self.assertIs(is_steps(row, (turn,) * 2000), True)
        self.assertIs(is_steps(row, (turn,) * 2001), False)
        self.assertIs(is_steps(row, (turn,) * 2002), False)
        self.assertEqual(walked(row, (turn,) * 2000), row)
        caught(self, InvalidOperation, walked, row, (turn,) * 2001)
        caught(self, InvalidOperation, walked, row, (turn,) * 2002)
        row = (50, 51, 0, 0)
        value = ()
        for _ in range(51):
            value = value + (turn, ("off", 1), ("off", 2))
        self.assertTrue(walked(row, value)[0] < 0)

    def test_wrong(self):
        for wrong in NO_STEPS:
            self.assertIs(is_steps((6, 2, 2, 2), wrong), False, repr(wrong)[:60])
            caught(self, InvalidOperation, walked, (6, 2, 2, 2), wrong)
        for move in NO_MOVES:
            self.assertIs(is_steps((6, 2, 2, 2), (move,)), False, repr(move))
        row = (0, -1, 0, 0)
        self.assertIs(is_steps(row, (("off", 0),)), True)
        for wrong in ((("of", 0),), ((True, 0),), ((("off",), 0),), (("turn", 0),), (("off", 4),), (("off", 1),), (("off", 0), ("off", 0)), (("off", 3),), (("off", False),), [("off", 0)]):
            self.assertIs(is_steps(row, wrong), False)
            caught(self, InvalidOperation, walked, row, wrong)
        for wrong in ((("off", -1),), (("off", -2),), (("off", 3),)):
            self.assertIs(is_steps((-1, -1, -1, -1), wrong), False)
            caught(self, InvalidOperation, walked, (-1, -1, -1, -1), wrong)
        long = (GREATEST, 0, 0, 0)
        too_many(self, 200, walked, long, (("turn", 0, 1, 2),))
        self.assertEqual(walked(long, (("turn", 0, 1, 2),) * 2), long)
        self.assertIs(is_steps(long, (("turn", 0, 1, 2),) * 2), True)

    def test_steps_keep_the_count(self):
        chance = random.Random(20)
        for _ in range(100):
            n = chance.randint(3, 8)
            row = (chance.randint(0, 8),) + tuple(chance.randint(-2, 4) for _ in range(n))
            turn = ("turn",) + tuple(sorted(chance.sample(range(n), 3)))
            self.assertEqual(count(walked(row, (turn,))), count(row))
            below = [at for at in range(n) if row[at + 1] < 0]
            if below:
                self.assertEqual(count(walked(row, (("off", below[-1]),))), count(row))
            self.assertEqual(moved(moved(row, settling(row)), undone(settling(row))), row)


if __name__ == "__main__":
    unittest.main()
