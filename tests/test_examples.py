"""The examples that the document prints, as far as the modules answer them."""

import unittest

from tests.kit import CIRCLE, FIVE, FOUR, SEXTIC
from timesthrough.base.rests import kernel, rank, reduced
from timesthrough.count.counts import count
from timesthrough.count.steps import settled, walked
from timesthrough.plane.forms import count_at
from timesthrough.plane.points import are_on_conic, is_let
from timesthrough.rows.exceptional import exceptional_rows, is_exceptional
from timesthrough.rows.moves import map_of, moved
from timesthrough.rows.rows import counting, genus, product, square, with_cubic


class Examples(unittest.TestCase):

    def test_rests(self):
        found = [rank(7, ((1, 2, 3), (2, 4, 6))), reduced(7, ((0, 2, 3), (3, 4, 6))), kernel(7, ((1, 2, 3),))]
        self.assertEqual(found, [1, ((1, 0, 0), (0, 1, 5)), ((1, 0, 2), (0, 1, 4))])

    def test_points(self):
        found = [are_on_conic(101, CIRCLE), count_at(101, CIRCLE, FIVE), count_at(101, CIRCLE, FOUR), is_let(101, CIRCLE)]
        self.assertEqual(found, [True, 1, 1, True])

    def test_rows(self):
        found = [product(FIVE, FOUR), square(FIVE), with_cubic(FIVE), counting(FIVE), counting(FOUR), genus(FIVE),
                 genus(SEXTIC)]
        self.assertEqual(found, [-2, -1, 1, 1, 0, 0, 0])

    def test_moves(self):
        turn = map_of(3, (("turn", 0, 1, 2),))
        found = [moved((2, 1, 1, 1, 1, 1), (("turn", 0, 1, 2),)), moved((0, 0, 0, -1), (("turn", 0, 1, 2),)), turn]
        told = ((2, 1, 1, 1), (1, 0, 1, 1), (1, 1, 0, 1), (1, 1, 1, 0))
        self.assertEqual(found, [(1, 0, 0, 0, 1, 1), (1, 1, 1, 0), told])

    def test_steps(self):
        found = [settled(FIVE), settled(FOUR), walked(FOUR, (("turn", 0, 1, 2), ("turn", 0, 3, 4), ("off", 0)))]
        self.assertEqual(found, [(0, 0, 0, 0, 0, 0, -1), (0, 0, 0, 0, 0, 0, -2), (0, 0, 0, 0, 0, 0, 0)])

    def test_counts(self):
        found = [count(FOUR), count((2, 2, 2, 0)), count((1, 2, 0, 0)), count((3, 3, 3, 3, 3)),
                 count((6, 2, 2, 2, 2, 2, 2, 2, 2, 1))]
        self.assertEqual(found, [1, 1, 0, 0, 3])

    def test_exceptional(self):
        found = [is_exceptional((1, 1, 1, 0)), exceptional_rows(3)[:4], len(exceptional_rows(7))]
        self.assertEqual(found, [True, ((0, -1, 0, 0), (0, 0, -1, 0), (0, 0, 0, -1), (1, 0, 1, 1)), 56])


if __name__ == "__main__":
    unittest.main()
