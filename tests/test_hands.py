import random
import unittest

from tests.kit import caught, refuses, too_many, wrong_values
from tests.test_shelf import HUNDRED, NO_QUESTIONS, OBJECTS, ROWS, named
from timesthrough.errors import InvalidOperation, Refused
from timesthrough.house.hands import MAX_CALLS, Hand
from timesthrough.house.shelf import Shelf, decide, is_paper
from timesthrough.rows.rows import cubic


def state(hand):
    return (hand.base, hand.calls, hand.rows_now, hand.points_now, len(hand), str(hand))


class Hands(unittest.TestCase):

    def test_told(self):
        shelf = Shelf(5, {"conic": (2, 1, 1, 1, 1, 1)})
        one, other = Hand(shelf), Hand(shelf)
        self.assertEqual(one.ask(("some", "conic"))[0], True)
        self.assertIs(one.change(("put", "line", (1, 1, 1, 0, 0, 0))), None)
        self.assertIs(other.change(("put", "conic", (2, 2, 2, 1, 0, 0))), None)
        self.assertEqual(other.commit(), 2)
        self.assertEqual((str(one), str(other), one.base, other.base), ("hand on 1, 2 calls", "hand on 2, 0 calls", 1, 2))
        self.assertEqual(one.calls, (("ask", ("some", "conic"), True), ("edit", ("put", "line", (1, 1, 1, 0, 0, 0)))))
        # The other hand's row has no curves: so the first call fails.
        self.assertEqual(caught(self, Refused, one.commit).reason, ("call", 0))
        self.assertEqual(one.renew(), 2)
        self.assertEqual(one.calls, (("edit", ("put", "line", (1, 1, 1, 0, 0, 0))),))
        self.assertEqual(one.ask(("some", "conic"))[0], False)
        self.assertEqual(one.commit(), 3)
        self.assertEqual(shelf.rows_at(), {"conic": (2, 2, 2, 1, 0, 0), "line": (1, 1, 1, 0, 0, 0)})
        self.assertEqual(shelf.rows_at(), one.rows_now)

    def test_rows_now(self):
        shelf = Shelf(3, {"b": (3, 1, 1, 1), "a": (2, 1, 0, -1)})
        hand = Hand(shelf)
        self.assertEqual((hand.base, hand.calls, hand.rows_now, hand.points_now, len(hand)), (1, (), shelf.rows_at(), 3, 0))
        for edit, points, rows in [(("more",), 4, {"a": (2, 1, 0, -1, 0), "b": (3, 1, 1, 1, 0)}),
                                   (("move", (("swap", 0, 3),)), 4, {"a": (2, 0, 0, -1, 1), "b": (3, 0, 1, 1, 1)}),
                                   (("less", 1), 3, {"a": (2, 0, -1, 1), "b": (3, 0, 1, 1)}),
                                   (("drop", "b"), 3, {"a": (2, 0, -1, 1)}),
                                   (("put", "c", cubic(3)), 3, {"a": (2, 0, -1, 1), "c": cubic(3)})]:
            hand.change(edit)
            self.assertEqual((hand.points_now, hand.rows_now), (points, rows))
        self.assertEqual((shelf.editions, shelf.points_at(), len(hand)), (1, 3, 5))
        self.assertEqual(hand.commit(), 2)
        self.assertEqual((shelf.rows_at(), shelf.points_at(), len(shelf.history), len(hand)), (hand.rows_now, 3, 1, 0))
        self.assertEqual((hand.calls, hand.base), ((), 2))

    def test_asked_as_decided(self):
        shelf = Shelf(5, ROWS)
        hand = Hand(shelf)
        for question in (("some", "conic"), ("clear", "twice"), ("free", "none"), ("led", "conic", "line")):
            self.assertEqual(hand.ask(question), decide(shelf.rows_at(), question))
        hand.change(("put", "conic", (0, 1, 0, 0, 0, 0)))
        verdict, paper = hand.ask(("some", "conic"))
        self.assertIs(is_paper(hand.rows_now, ("some", "conic"), verdict, paper), True)
        self.assertIs(verdict, False)
        self.assertEqual([call[2] for call in hand.calls if call[0] == "ask"], [True, False, False, True, False])

    def test_either_order(self):
        chance = random.Random(230)
        for _ in range(40):
            starts = [Shelf(5, ROWS), Shelf(5, ROWS)]
            names = sorted(ROWS)
            chance.shuffle(names)
            calls = []
            for mine in (names[:3], names[3:6]):
                made = []
                for name in mine:
                    row = tuple(chance.randint(-1, 3) for _ in range(6))
                    made.append(chance.choice([("change", ("put", name, row)), ("change", ("drop", name)),
                                               ("ask", ("some", name)), ("ask", ("free", name))]))
                made.append(("change", ("put", mine[0], cubic(5))))
                calls.append(made)
            for shelf, order in zip(starts, ((0, 1), (1, 0))):
                hands = [Hand(shelf), Hand(shelf)]
                for hand, made in zip(hands, calls):
                    for call, told in made:
                        {"change": hand.change, "ask": hand.ask}[call](told)
                for at in order:
                    hands[at].commit()
            self.assertEqual(starts[0].rows_at(), starts[1].rows_at())
            self.assertEqual(starts[0].editions, 3)

    def test_commit_is_let_if_all_calls_could_be_made_now(self):
        chance = random.Random(231)
        seen = {True: 0, False: 0}
        for _ in range(150):
            shelf = Shelf(5, ROWS)
            one, other = Hand(shelf), Hand(shelf)
            for hand in (one, other):
                for _ in range(3):
                    self.any_call(chance, hand)
                hand.change(("put", "last", cubic(hand.points_now)))
            other.commit()
            late = Hand(shelf)
            told = None
            for at, call in enumerate(one.calls):
                try:
                    if call[0] == "edit":
                        late.change(call[1])
                    elif late.ask(call[1])[0] is not call[2]:
                        told = ("call", at)
                except (Refused, InvalidOperation):
                    told = ("call", at)
                if told:
                    break
            before, was = shelf.twin(), state(one)
            seen[told is None] += 1
            if told:
                self.assertEqual(caught(self, Refused, one.commit).reason, told)
                self.assertEqual((shelf, state(one)), (before, was))
            else:
                self.assertEqual(one.commit(), 3)
                self.assertEqual(shelf.rows_at(), late.rows_now)
        self.assertTrue(min(seen.values()) > 20, seen)

    def any_call(self, chance, hand):
        names = sorted(hand.rows_now)
        n = hand.points_now
        edits = [("put", chance.choice(names), (chance.randint(0, 3),) + (1,) * n), ("more",), ("drop", chance.choice(names)),
                 ("move", (("turn", 0, 1, n - 1),)), ("put", "new", cubic(n)), ("less", n - 1)]
        if chance.random() < 0.5:
            hand.ask((chance.choice(("some", "clear", "free")), chance.choice(names)))
        else:
            hand.change(chance.choice(edits if n > 3 else edits[:5]))

    def test_renew(self):
        shelf = Shelf(5, ROWS)
        one, other = Hand(shelf), Hand(shelf)
        one.ask(("some", "none"))
        one.change(("drop", "line"))
        one.ask(("free", "conic"))
        one.change(("put", "new", cubic(5)))
        other.change(("drop", "nought"))
        other.change(("put", "none", cubic(5)))
        other.commit()
        self.assertEqual(caught(self, Refused, one.commit).reason, ("call", 0))
        self.assertEqual(one.renew(), 2)
        self.assertEqual(one.calls, (("edit", ("drop", "line")), ("edit", ("put", "new", cubic(5)))))
        self.assertEqual((one.base, "nought" in one.rows_now, "line" in one.rows_now, "new" in one.rows_now),
                         (2, False, False, True))
        # A further one that makes an edit impossible: told by its index among all calls.
        one.ask(("some", "conic"))
        one.change(("drop", "free"))
        other.change(("drop", "free"))
        other.commit()
        was = state(one)
        self.assertEqual(caught(self, Refused, one.renew).reason, ("call", 3))
        self.assertEqual(caught(self, Refused, one.commit).reason, ("call", 3))
        self.assertEqual(state(one), was)
        # A hand without calls renews, too.
        late = Hand(Shelf(3))
        self.assertEqual((late.renew(), late.calls), (1, ()))
        self.assertEqual(caught(self, Refused, late.commit).reason, ("empty",))

    def test_empty(self):
        shelf = Shelf(5, ROWS)
        hand = Hand(shelf)
        self.assertEqual(caught(self, Refused, hand.commit).reason, ("empty",))
        hand.ask(("some", "none"))
        shelf.edit((("put", "none", cubic(5)),))
        # Without edits this stands ahead of the call that fails.
        self.assertEqual(caught(self, Refused, hand.commit).reason, ("empty",))
        self.assertEqual((hand.base, len(hand), shelf.editions), (1, 1, 2))

    def test_questions_that_are_none_on_the_last_edition(self):
        shelf = Shelf(5, ROWS)
        hand = Hand(shelf)
        hand.change(("put", "new", cubic(5)))
        hand.ask(("led", "conic", "new"))
        shelf.edit((("drop", "conic"),))
        self.assertEqual(caught(self, Refused, hand.commit).reason, ("call", 1))

    def test_limits(self):
        self.assertEqual(MAX_CALLS, 40)
        shelf = Shelf(5, ROWS)
        hand = Hand(shelf)
        for _ in range(10):
            hand.change(("move", ()))
        too_many(self, 10, hand.change, ("move", ()))
        self.assertEqual(caught(self, Refused, hand.change, ("drop", "zzz")).reason, ("edit", "unknown"))
        caught(self, InvalidOperation, hand.change, ("drop",))
        for _ in range(30):
            hand.ask(("some", "conic"))
        too_many(self, 40, hand.ask, ("some", "conic"))
        caught(self, InvalidOperation, hand.ask, ("some", "zzz"))
        too_many(self, 10, hand.change, ("move", ()))
        self.assertEqual((len(hand), str(hand)), (40, "hand on 1, 40 calls"))
        self.assertEqual(hand.commit(), 2)
        other = Hand(shelf)
        for _ in range(40):
            other.ask(("some", "conic"))
        too_many(self, 40, other.change, ("more",))
        too_many(self, 40, other.ask, ("some", "conic"))
        self.assertEqual(caught(self, Refused, other.change, ("drop", "zzz")).reason, ("edit", "unknown"))

    def test_forty_editions(self):
        shelf = Shelf(3)
        hand = Hand(shelf)
        hand.change(("put", "a", cubic(3)))
        for _ in range(38):
            shelf.edit((("move", ()),))
        self.assertEqual(hand.commit(), 40)
        hand.change(("put", "a", cubic(3)))
        was = state(hand)
        too_many(self, 40, hand.commit)
        self.assertEqual((state(hand), shelf.editions), (was, 40))
        hand.change(("drop", "a"))
        late = Hand(shelf)
        late.change(("drop", "a"))
        self.assertEqual(caught(self, Refused, late.change, ("drop", "a")).reason, ("edit", "unknown"))
        self.assertEqual(hand.renew(), 40)

    def test_refused_edits(self):
        full, small = Hand(Shelf(8, named(20, 8))), Hand(Shelf(3, {"a": (HUNDRED, 0, 0, 0)}))
        for hand, edit, word in ((small, ("drop", "b"), "unknown"), (small, ("less", 3), "unknown"),
                                 (small, ("move", (("swap", 0, 3),)), "unknown"), (small, ("put", "a", cubic(4)), "points"),
                                 (full, ("put", "x", cubic(7)), "points"), (full, ("put", "x", cubic(8)), "many"),
                                 (full, ("more",), "many"), (small, ("less", 1), "few"),
                                 (small, ("move", (("turn", 0, 1, 2),)), "great")):
            was = state(hand)
            self.assertEqual(caught(self, Refused, hand.change, edit).reason, ("edit", word))
            self.assertEqual(state(hand), was)

    def test_wrong(self):
        refuses(self, Hand, (Shelf(3),), 0, InvalidOperation, wrong_values() + [ROWS, 3, OBJECTS[1], OBJECTS[2]])
        hand = Hand(Shelf(5, ROWS))
        for wrong in wrong_values() + OBJECTS + [("more", 1), ("less", 8), ["more"], (("more",),), ("put", "A", cubic(5))]:
            caught(self, InvalidOperation, hand.change, wrong)
        for wrong in NO_QUESTIONS + [("some", "zzz"), ("led", "conic", "zzz")]:
            caught(self, InvalidOperation, hand.ask, wrong)
        self.assertEqual((len(hand), hand.calls), (0, ()))

    def test_equal(self):
        one, other = Shelf(5, ROWS), Shelf(5, ROWS)
        hands = [Hand(one), Hand(other)]
        self.assertIs(hands[0] == hands[1], True)
        self.assertIs(hands[0] != hands[1], False)
        hands[0].ask(("some", "conic"))
        self.assertIs(hands[0] == hands[1], False)
        hands[1].ask(("some", "conic"))
        self.assertIs(hands[0] == hands[1], True)
        one.edit((("more",),))
        self.assertIs(hands[0] != hands[1], True)
        other.edit((("more",),))
        self.assertIs(hands[0] == hands[1], True)
        hands[1].renew()
        hands[1].ask(("some", "conic"))
        self.assertEqual(hands[0].calls, hands[1].calls)
        self.assertIs(hands[0] == hands[1], False)
        for value in wrong_values() + OBJECTS + [one]:
            self.assertIs(hands[0] == value, False)
            self.assertIs(hands[0] != value, True)
            self.assertIs(value == hands[0], False)

    def test_not_iterated_and_not_shared(self):
        shelf = Shelf(5, ROWS)
        hand = Hand(shelf)
        for kind in (iter, list, tuple):
            with self.assertRaises(TypeError):
                kind(hand)
        hand.rows_now.clear()
        hand.rows_now["conic"] = None
        self.assertEqual(hand.rows_now, ROWS)
        self.assertEqual(list(hand.rows_now), sorted(ROWS))
        self.assertIsInstance(hand.calls, tuple)
        for name in ("base", "calls", "rows_now", "points_now"):
            with self.assertRaises(AttributeError):
                setattr(hand, name, ())
        # It keeps the shelf itself, which commit changes.
        hand.change(("more",))
        twin = shelf.twin()
        hand.commit()
        self.assertEqual((shelf.editions, twin.editions), (2, 1))
        self.assertEqual(shelf.history, (("edit", (("more",),)),))


if __name__ == "__main__":
    unittest.main()
