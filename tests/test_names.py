import random
import unittest
from itertools import combinations

from tests.kit import FIVE, are_plain, caught, near_values, refuses, wrong_values
from tests.test_apart import ROWS, lots, random_lot
from tests.test_moves import NO_WORDS, by_hand, random_word
from tests.test_roots import ALL, NO_EIGHT
from tests.test_rows import NO_ROWS
from timesthrough.errors import InvalidLot, InvalidName, InvalidNumber, InvalidRow, InvalidWord, Refused
from timesthrough.lots.apart import are_apart, whole_lots
from timesthrough.lots.names import (is_names_bar, is_renaming, names_bar, names_word, other_half, pairs, partner,
                                     renaming_by, renaming_of, sixes, third, threes, threes_of)
from timesthrough.mirrors.roots import group_order
from timesthrough.rows.moves import is_word, map_of, moved_by
from timesthrough.rows.rows import added, cubic, less, line_row, multiplied, point_row, product

E0, L01 = (0, -1, 0, 0, 0, 0, 0), (1, 1, 1, 0, 0, 0, 0)
NO_SIX_ROWS = NO_ROWS + [cubic(6), line_row(6), (0, -1, 0, 0, 0, 0), (0, -1, 0, 0, 0, 0, 0, 0), (0, 0, 0, 0, 0, 0, 0),
                         (0, -1, 0, 0, 0, 0, False), (True, 1, 1, 0, 0, 0, 0), list(L01), point_row(16, 0)]


def exchanged(names, one, other):
    """The names, with what stands for two rows exchanged."""
    found = dict(names)
    found[one], found[other] = names[other], names[one]
    return found


def keeps_meetings(n, names):
    return all(product(one, other) == product(names[one], names[other]) for one, other in combinations(ROWS[n], 2))


def shuffled(chance, names):
    keys = list(names)
    chance.shuffle(keys)
    return {key: names[key] for key in keys}


def no_names(n):
    """What is no dict from all exceptional rows to all of them."""
    good = {row: row for row in ROWS[n]}
    first, second = ROWS[n][:2]
    lacking = {row: row for row in ROWS[n] if row != first}
    odd = [row for row in ROWS[n] if 1 in row][0]
    with_true = tuple(True if entry == 1 else entry for entry in odd)
    return [
        good | {cubic(n): first}, lacking, lacking | {first[:-1] + ("0",): first}, lacking | {first + (0,): first},
        {with_true if row == odd else row: row for row in ROWS[n]}, good | {odd: with_true}, good | {first: second},
        good | {first: cubic(n)}, good | {first: list(first)}, good | {first: None}, good | {first: 5},
        good | {first: first + (0,)}, good | {"a": "b"}, lacking | {"a": first}, list(good.items()), tuple(good.items()),
        ROWS[n], {row: row for row in ROWS[4 if n == 3 else 3]}]


class Renamings(unittest.TestCase):

    def test_by_words_lots_and_meetings(self):
        chance = random.Random(101)
        for _ in range(40):
            n = chance.randint(3, 8)
            word = random_word(chance, n, 15)
            names = renaming_of(n, word)
            self.assertEqual(list(names.items()), [(row, by_hand(row, word)) for row in ROWS[n]])
            lot = tuple(names[point_row(n, at)] for at in range(n))
            by_lot = renaming_by(n, lot)
            self.assertEqual(list(by_lot.items()), list(names.items()))
            mixed = shuffled(chance, names)
            self.assertIs(is_renaming(n, mixed), True)
            self.assertTrue(n > 6 or keeps_meetings(n, names))
            found = names_word(n, mixed)
            self.assertIs(is_word(n, found), True)
            self.assertEqual(map_of(n, found), map_of(n, word))
            self.assertIs(names_bar(n, mixed), None)

    def test_all_maps(self):
        for n in (3, 4, 5):
            seen = set()
            for rows in sorted(ALL[n])[::1 if n < 5 else 20]:
                names = renaming_by(n, rows[1:])
                self.assertEqual(names, {row: moved_by(row, rows) for row in ROWS[n]})
                self.assertEqual(map_of(n, names_word(n, names)), rows)
                seen.add(tuple(names.items()))
            self.assertEqual(len(seen), group_order(n) if n < 5 else group_order(n) // 20)

    def test_all_renamings_by_a_search(self):
        # Each row in turn gets each name that meets the names so far as the rows meet.
        for n in (3, 4):
            rows = ROWS[n]
            found = [()]
            for at, row in enumerate(rows):
                found = [some + (name,) for some in found for name in rows
                         if all(product(name, other) == product(row, rows[spot]) for spot, other in enumerate(some))
                         and name not in some]
            self.assertEqual(len(found), group_order(n))
            for some in found:
                names = dict(zip(rows, some))
                self.assertIs(is_renaming(n, names), True)
                self.assertEqual(renaming_of(n, names_word(n, names)), names)

    def test_names_that_are_no_renaming(self):
        chance = random.Random(102)
        for _ in range(60):
            n = chance.randint(3, 8)
            names = renaming_of(n, random_word(chance, n, 10))
            if chance.random() < 0.5:
                one, other = chance.sample(ROWS[n], 2)
                names = exchanged(names, one, other)
            else:
                some = list(names.values())
                chance.shuffle(some)
                names = dict(zip(names, some))
            told = keeps_meetings(n, names) if n < 7 else False
            names = shuffled(chance, names)
            self.assertIs(is_renaming(n, names), told)
            self.assertIs(names_word(n, names) is None, not told)
            bar = names_bar(n, names)
            self.assertIs(bar is None, told)
            if bar is not None:
                one, other = bar
                self.assertTrue(one < other and one in ROWS[n] and other in ROWS[n])
                self.assertNotEqual(product(one, other), product(names[one], names[other]))
                self.assertIs(is_names_bar(n, names, bar), True)

    def test_point_rows_alone(self):
        # These names are right for all point rows.
        for n in (4, 5, 6, 7, 8):
            names = {row: row for row in ROWS[n]}
            names = exchanged(names, *ROWS[n][-2:])
            self.assertEqual((names_word(n, names), is_renaming(n, names)), (None, False))
            self.assertIs(is_names_bar(n, names, names_bar(n, names)), True)

    def test_bars_by_all_pairs(self):
        chance = random.Random(104)
        for n, many in ((3, 60), (4, 60), (5, 40), (6, 30), (7, 8), (8, 3)):
            for _ in range(many):
                names = renaming_of(n, random_word(chance, n, 10))
                for _ in range(chance.randint(0, 2)):
                    names = exchanged(names, *chance.sample(ROWS[n][chance.choice((0, n, -4)):], 2))
                bad = [pair for pair in combinations(ROWS[n], 2) if product(*pair) != product(names[pair[0]], names[pair[1]])]
                self.assertEqual(names_bar(n, names), bad[0] if bad else None)
                self.assertIs(is_renaming(n, names), not bad)
                self.assertIs(names_word(n, names) is None, bool(bad))

    def test_is_names_bar(self):
        chance = random.Random(103)
        seen = {True: 0, False: 0}
        for n in (3, 4, 5, 6):
            same = {row: row for row in ROWS[n]}
            names = exchanged(same, *chance.sample(ROWS[n], 2))
            pairs_of_rows = [tuple(chance.sample(ROWS[n], 2)) for _ in range(60)] + [(row, row) for row in ROWS[n]]
            bar = names_bar(n, names)
            values = pairs_of_rows + (near_values(bar) if bar else [])
            for value in values:
                told = are_plain(value) and isinstance(value, tuple) and len(value) == 2
                told = told and all(row in ROWS[n] for row in value) and value[0] < value[1]
                told = told and product(*value) != product(names[value[0]], names[value[1]])
                self.assertIs(is_names_bar(n, names, value), told)
                self.assertIs(is_names_bar(n, same, value), False)
                seen[told] += 1
            for wrong in wrong_values():
                self.assertIs(is_names_bar(n, names, wrong), False)
        self.assertTrue(min(seen.values()) > 20)

    def test_is_renaming_of_wrong_values(self):
        for n in (3, 6):
            for wrong in wrong_values() + no_names(n):
                self.assertIs(is_renaming(n, wrong), False)
        self.assertIs(is_renaming(4, {row: row for row in ROWS[3]}), False)

    def test_wrong(self):
        for call, args in ((is_renaming, (3, {})), (renaming_of, (3, ())), (names_word, (3, {})), (names_bar, (3, {})),
                           (is_names_bar, (3, {}, ())), (renaming_by, (3, ()))):
            refuses(self, call, args, 0, InvalidNumber, NO_EIGHT)
        refuses(self, renaming_of, (3, ()), 1, InvalidWord, [wrong for wrong in NO_WORDS if not is_word(3, wrong)])
        for n in (3, 6):
            for call, args in ((names_word, (n, {})), (names_bar, (n, {})), (is_names_bar, (n, {}, ()))):
                refuses(self, call, args, 1, InvalidName, wrong_values() + no_names(n))
        lot = tuple(point_row(3, at) for at in range(3))
        wrong = wrong_values() + [(), lot[:2], list(lot), lot[:2] + lot[:1], lot[:2] + ((1, 1, 0, 1),), lot + lot[:1],
                                  lot[:2] + (cubic(3),), tuple(point_row(4, at) for at in range(3)), lot[:2] + (list(lot[2]),),
                                  tuple(point_row(4, at) for at in range(4)), ((1, 1, 1, 0), (0, 0, 0, -1)),
                                  lot[:2] + ((0, 0, False, -1),), (None,) * 3, lot[0]]
        refuses(self, renaming_by, (3, lot), 1, InvalidLot, wrong)


class Threes(unittest.TestCase):

    def test_told(self):
        self.assertEqual([third(E0, L01), len(threes_of(E0)), len(threes()), len(sixes()), len(pairs(7))],
                         [(2, 1, 0, 1, 1, 1, 1), 5, 45, 36, 28])
        self.assertEqual(partner((0, -1, 0, 0, 0, 0, 0, 0)), (3, 2, 1, 1, 1, 1, 1, 1))

    def test_threes(self):
        told = [(one, other, last) for one, other, last in combinations(ROWS[6], 3)
                if product(one, other) == product(one, last) == product(other, last) == 1]
        self.assertEqual(threes(), tuple(told))
        for three in told:
            self.assertEqual(added(added(three[0], three[1]), three[2]), cubic(6))
        for row in ROWS[6]:
            self.assertEqual(threes_of(row), tuple(three for three in told if row in three))
            self.assertEqual(len(threes_of(row)), 5)
        for one in ROWS[6]:
            for other in ROWS[6]:
                if product(one, other) == 1:
                    both = [row for row in ROWS[6] if product(row, one) == 1 == product(row, other)]
                    self.assertEqual([third(one, other)], both)
                else:
                    self.assertEqual(caught(self, Refused, third, one, other).reason, ("apart",))

    def test_sixes(self):
        all_sixes = lots(6, 6)
        found = sixes()
        self.assertEqual((len(found), found), (36, tuple(sorted(found))))
        self.assertEqual(sorted(six for pair in found for six in pair), all_sixes)
        by_looking = [(six, tuple(row for row in ROWS[6] if [product(row, other) for other in six].count(1) == 5)) for six in all_sixes]
        self.assertEqual(found, tuple(pair for pair in by_looking if pair[0] < pair[1]))
        for one, other in found:
            self.assertTrue(one < other)
            self.assertEqual((other_half(one), other_half(other)), (other, one))
        for six in all_sixes:
            half = other_half(six)
            self.assertEqual((len(half), list(half)), (6, sorted(half)))
            for row in half:
                self.assertEqual(sorted(product(row, other) for other in six), [0, 1, 1, 1, 1, 1])
            for other in ROWS[6]:
                if other not in half and other not in six:
                    self.assertNotEqual(sorted(product(other, row) for row in six), [0, 1, 1, 1, 1, 1])

    def test_pairs(self):
        for n, number, many in ((7, 2, 28), (8, 3, 120)):
            found = pairs(n)
            self.assertEqual((len(found), found), (many, tuple(sorted(found))))
            for row in ROWS[n]:
                self.assertEqual([partner(row)], [other for other in ROWS[n] if product(row, other) == number])
                self.assertEqual(added(row, partner(row)), multiplied(n - 6, cubic(n)))
            self.assertEqual(sorted(row for pair in found for row in pair), list(ROWS[n]))
            self.assertTrue(all(one < other and partner(one) == other for one, other in found))

    def test_renamings_carry(self):
        chance = random.Random(104)
        for _ in range(12):
            names = renaming_of(6, random_word(chance, 6))
            carried = [tuple(sorted(names[row] for row in three)) for three in threes()]
            self.assertEqual(sorted(carried), list(threes()))
            carried = [tuple(sorted(tuple(sorted(names[row] for row in six)) for six in pair)) for pair in sixes()]
            self.assertEqual(sorted(carried), list(sixes()))
            for n in (7, 8):
                more = renaming_of(n, random_word(chance, n))
                self.assertTrue(all(partner(more[row]) == more[partner(row)] for row in ROWS[n][::5]))

    def test_sixes_are_carried_to_one_another(self):
        chance = random.Random(105)
        for _ in range(20):
            one, other = chance.choice(whole_lots(6)), chance.choice(whole_lots(6))
            common = [row for row in one if row in other]
            order = [row if row in common else None for row in one]
            left = [row for row in other if row not in common]
            order = tuple(row if row is not None else left.pop() for row in order)
            there, back = renaming_by(6, order), renaming_by(6, one)
            to_points = {name: row for row, name in back.items()}
            names = {row: there[to_points[row]] for row in ROWS[6]}
            self.assertIs(is_renaming(6, names), True)
            self.assertEqual(sorted(names[row] for row in one), list(other))
            self.assertTrue(all(names[row] == row for row in common))

    def test_not_true(self):
        five = tuple(sorted(random_lot(random.Random(1), 6, None, True)))
        self.assertEqual((len(five), are_apart(five)), (5, True))
        self.assertFalse(any(all(row in six for row in five) for six in whole_lots(6)))

    def test_wrong(self):
        refuses(self, third, (E0, L01), 0, InvalidRow, NO_SIX_ROWS)
        refuses(self, third, (E0, L01), 1, InvalidRow, NO_SIX_ROWS)
        refuses(self, third, (L01, E0), 1, InvalidRow, NO_SIX_ROWS)
        refuses(self, threes_of, (E0,), 0, InvalidRow, NO_SIX_ROWS)
        refuses(self, partner, (point_row(7, 0),), 0, InvalidRow,
                NO_ROWS + [FIVE, E0, cubic(7), cubic(8), point_row(9, 0), point_row(16, 0), line_row(7), (0, 0, 0, -1)])
        refuses(self, pairs, (7,), 0, InvalidNumber, NO_EIGHT + [3, 4, 5, 6])
        six = tuple(sorted(point_row(6, at) for at in range(6)))
        refuses(self, other_half, (six,), 0, InvalidLot, wrong_values() + [
            (), six[:5], six[::-1], six[1:2] + six[:1] + six[2:], list(six), six + six[-1:], six[:5] + six[4:5],
            six[:5] + (L01,), tuple(sorted(point_row(7, at) for at in range(6))), six[:5] + (less(six[5], six[5]),),
            tuple(sorted(point_row(7, at) for at in range(7))), six[:5] + (list(six[5]),), six[:5] + (None,),
            six[:5] + ((0, -1, 0, 0, 0, 0, False),), (None,) * 6])


if __name__ == "__main__":
    unittest.main()
