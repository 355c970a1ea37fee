"""The examples that the document prints, as far as the modules answer them."""

import unittest

from tests.kit import CIRCLE, FIVE, FOUR, SEXTIC
from timesthrough.base.rests import kernel, rank, reduced
from timesthrough.change.changes import change_word, is_change_row
from timesthrough.count.counts import count
from timesthrough.count.free import has_base_point, is_free, met, pencil_of
from timesthrough.count.parts import parts
from timesthrough.count.steps import settled, walked
from timesthrough.house.hands import Hand
from timesthrough.house.shelf import Shelf
from timesthrough.lots.apart import are_apart, further, kind_of, line_of
from timesthrough.lots.names import pairs, partner, sixes, third, threes, threes_of
from timesthrough.many.bounds import end_of_steps, row_below
from timesthrough.mirrors.led import how_many, led, led_rows, parting
from timesthrough.mirrors.roots import group_order, is_positive, is_root, roots, turned
from timesthrough.nine.lattice import exceptional_of, lattice_of, lattice_rows, norm, unfolded
from timesthrough.place.counts import clear_part, count_in, depends
from timesthrough.place.places import Place
from timesthrough.plane.forms import count_at
from timesthrough.plane.points import are_on_conic, is_let
from timesthrough.rows.exceptional import exceptional_rows, is_exceptional
from timesthrough.rows.moves import map_of, moved
from timesthrough.rows.rows import counting, cubic, genus, point_row, product, square, with_cubic
from timesthrough.share.shares import free_share, least_degree, least_share
from timesthrough.text.texts import read_row, write_points, write_row, write_value, write_word


class Examples(unittest.TestCase):

    def test_rests(self):
        found = [rank(7, ((1, 2, 3), (2, 4, 6))), reduced(7, ((0, 2, 3), (3, 4, 6))), kernel(7, ((1, 2, 3),))]
        self.assertEqual(found, [1, ((1, 0, 0), (0, 1, 5)), ((1, 0, 2), (0, 1, 4))])

    def test_points(self):
        found = [are_on_conic(101, CIRCLE), count_at(101, CIRCLE, FIVE), count_at(101, CIRCLE, FOUR), is_let(101, CIRCLE)]
        self.assertEqual(found, [True, 1, 1, True])

    def test_rows(self):
        found = [product(FIVE, FOUR), square(FIVE), with_cubic(FIVE), counting(FIVE), counting(FOUR), genus(FIVE),
                 genus(SEXTIC)]
        self.assertEqual(found, [-2, -1, 1, 1, 0, 0, 0])

    def test_moves(self):
        turn = map_of(3, (("turn", 0, 1, 2),))
        found = [moved((2, 1, 1, 1, 1, 1), (("turn", 0, 1, 2),)), moved((0, 0, 0, -1), (("turn", 0, 1, 2),)), turn]
        told = ((2, 1, 1, 1), (1, 0, 1, 1), (1, 1, 0, 1), (1, 1, 1, 0))
        self.assertEqual(found, [(1, 0, 0, 0, 1, 1), (1, 1, 1, 0), told])

    def test_steps(self):
        found = [settled(FIVE), settled(FOUR), walked(FOUR, (("turn", 0, 1, 2), ("turn", 0, 3, 4), ("off", 0)))]
        self.assertEqual(found, [(0, 0, 0, 0, 0, 0, -1), (0, 0, 0, 0, 0, 0, -2), (0, 0, 0, 0, 0, 0, 0)])

    def test_counts(self):
        found = [count(FOUR), count((2, 2, 2, 0)), count((1, 2, 0, 0)), count((3, 3, 3, 3, 3)),
                 count((6, 2, 2, 2, 2, 2, 2, 2, 2, 1))]
        self.assertEqual(found, [1, 1, 0, 0, 3])

    def test_exceptional(self):
        found = [is_exceptional((1, 1, 1, 0)), exceptional_rows(3)[:4], len(exceptional_rows(7))]
        self.assertEqual(found, [True, ((0, -1, 0, 0), (0, 0, -1, 0), (0, 0, 0, -1), (1, 0, 1, 1)), 56])

    def test_parts(self):
        self.assertEqual(parts((4, 2, 2, 2, 2, 2)), ((0, 0, 0, 0, 0, 0), (((2, 1, 1, 1, 1, 1), 2),)))

    def test_free(self):
        found = [is_free((4, 2, 2, 1, 1, 1)), met((5, 3, 3, 1)), pencil_of((4, 2, 2, 2, 2)), has_base_point((3,) + (1,) * 8)]
        self.assertEqual(found, [True, (1, 1, 1, 0), (2, (2, 1, 1, 1, 1)), True])

    def test_roots(self):
        found = [is_root((1, 1, 1, 1)), is_positive((0, 1, -1, 0)), len(roots(3)),
                 turned((2, 1, 1, 0, 1), (1, 1, 1, 0, 1)), group_order(6)]
        self.assertEqual(found, [True, False, 8, (1, 0, 0, 0, 0), 51840])

    def test_led(self):
        line, other = (1, 0, 0, 0, 0, 0, 0, 0, 0), (3, 1, 1, 1, 1, 1, 1, 1, -1)
        found = [led(line, other), parting(other, line) == (other, line), how_many(line), how_many(other),
                 led_rows((1, 0, 0, 0))]
        self.assertEqual(found, [None, True, 17280, 240, ((1, 0, 0, 0), (2, 1, 1, 1))])

    def test_lattice(self):
        a = (0, 1, -1, 0, 0, 0, 0, 0, 0)
        found = [norm(a), exceptional_of(a), lattice_of(point_row(9, 8)), unfolded(cubic(9)),
                 [len(lattice_rows(number)) for number in (0, 2, 4)]]
        self.assertEqual(found, [2, (3, 2, 0, 1, 1, 1, 1, 1, 1, 0), (0, 0, 0, 0, 0, 0, 0, 0, 0),
                                 (0, (0, 0, 0, 0, 0, 0, 0, 0, 0), 1), [1, 240, 2160]])

    def test_apart(self):
        lot = ((2, 1, 1, 1, 1, 1), (1, 1, 1, 0, 0, 0), (1, 1, 0, 1, 0, 0), (1, 1, 0, 0, 1, 0), (1, 1, 0, 0, 0, 1))
        found = [are_apart(lot), kind_of(lot), line_of(lot), further(lot[:4]), kind_of(((1, 1, 1, 0), (0, 0, 0, -1)))]
        self.assertEqual(found, [True, "points", (3, 2, 1, 1, 1, 1), ((1, 1, 0, 0, 0, 1),), "rulings"])

    def test_names(self):
        e0, l01 = (0, -1, 0, 0, 0, 0, 0), (1, 1, 1, 0, 0, 0, 0)
        found = [third(e0, l01), len(threes_of(e0)), len(threes()), len(sixes()), len(pairs(7)),
                 partner((0, -1, 0, 0, 0, 0, 0, 0))]
        self.assertEqual(found, [(2, 1, 0, 1, 1, 1, 1), 5, 45, 36, 28, (3, 2, 1, 1, 1, 1, 1, 1)])

    def test_changes(self):
        found = [is_change_row((2, 1, 1, 1)), is_change_row((5, 3, 3, 1, 1, 1, 1, 1, 1)), change_word((1, 1, 0, 0)),
                 moved((1, 0, 0, 0), change_word((2, 1, 1, 1)))]
        self.assertEqual(found, [True, False, None, (2, 1, 1, 1)])

    def test_shares(self):
        found = [least_share((1, 1, 1, 1, 1, 1)), free_share((1, 1, 1, 1, 1, 1)), least_share((2, 1, 1)),
                 least_degree((1,) * 8, 17)]
        self.assertEqual(found, [(12, 5), (5, 2), (2, 1), 48])

    def test_places(self):
        place = Place(101, ((1, 0, 0), (0, 1, 0), (0, 0, 1), (1, 1, 1), (1, 1, 0)))
        found = [place.roots, len(place.staying), place.parts_of((1, 1, 1, 0, 0, 0)), str(place)]
        told = (((0, 0, 0, 0, 0, -1), 1), ((1, 1, 1, 0, 0, 1), 1))
        self.assertEqual(found, [((1, 0, 0, 1, 1, 1), (1, 1, 1, 0, 0, 1)), 9, told, "5 points over 101, kind a1 a1"])

    def test_counts_at_places(self):
        corners = Place(101, ((1, 0, 0), (0, 1, 0), (0, 0, 1), (0, 100, 1), (100, 0, 1), (100, 1, 0)))
        twice = (4,) + (2,) * 6
        found = [count_in(corners, (2,) + (1,) * 6), count_in(corners, twice), clear_part(corners, twice),
                 depends(corners, twice)]
        self.assertEqual(found, [0, 1, (0, 0, 0, 0, 0, 0, 0), True])

    def test_bounds(self):
        ten = (6, 2, 2, 2, 2, 2, 2, 2, 2, 1, 1)
        found = [end_of_steps(ten), row_below(ten), end_of_steps((2, 2, 2, 2, 0, 0, 0, 0, 0, 0, 0)),
                 row_below((4, 2, 2, 2, 2, 2, 0, 0, 0, 0, 0))]
        self.assertEqual(found, [("at", (6, 2, 2, 2, 2, 2, 2, 2, 2, 1, 1)), 2, ("below",), 1])

    def test_shelf(self):
        shelf = Shelf(5, {"conic": (2, 1, 1, 1, 1, 1), "twice": (4, 2, 2, 2, 2, 2)})
        found = [shelf.pin(("clear", "twice")), shelf.claims[0][1], shelf.edit((("less", 4),)), shelf.standing(1)[:2],
                 shelf.fallen, str(shelf)]
        self.assertEqual(found, [1, False, 2, ("fallen", True), (1,), "shelf of 2 rows at 4 points, edition 2"])

    def test_hands(self):
        shelf = Shelf(5, {"conic": (2, 1, 1, 1, 1, 1)})
        one, other = Hand(shelf), Hand(shelf)
        found = [one.ask(("some", "conic"))[0], one.change(("put", "line", (1, 1, 1, 0, 0, 0))),
                 other.change(("put", "conic", (2, 2, 2, 1, 0, 0))), other.commit(), str(one)]
        self.assertEqual(found, [True, None, None, 2, "hand on 1, 2 calls"])

    def test_texts(self):
        found = [write_row(FOUR), write_word((("swap", 0, 3), ("turn", 0, 1, 4))), write_points(101, CIRCLE[:3]),
                 read_row(" 2 1 1  -1"), write_value(("turn", 0, (None, -3)))]
        self.assertEqual(found, ["4 2 2 2 2 2 0", "0-3 0-1-4", "101 / 0,0,1 1,1,1 2,4,1", (2, 1, 1, -1),
                                 "('turn 0 (none -3))"])


if __name__ == "__main__":
    unittest.main()
