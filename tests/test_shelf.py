import random
import unittest

from tests.kit import CIRCLE, caught, near_values, refuses, too_many, wrong_values
from timesthrough.count.counts import bar, count, has_curves, is_bar
from timesthrough.count.free import is_free, is_free_word, met
from timesthrough.count.parts import is_parts, parts
from timesthrough.count.steps import is_steps, settled, steps
from timesthrough.errors import InvalidNumber, InvalidOperation, InvalidRow, Refused
from timesthrough.house.hands import Hand
from timesthrough.house.shelf import (
    MAX_CLAIMS, MAX_EDITIONS, MAX_EDITS, MAX_NAMED, Shelf, decide, is_edit, is_paper, is_question)
from timesthrough.mirrors.led import does_lead, led
from timesthrough.place.places import Place
from timesthrough.rows.exceptional import is_exceptional
from timesthrough.rows.moves import moved
from timesthrough.rows.rows import counting, cubic, is_row, product

HUNDRED = 10 ** 100 - 1
ROWS = {"conic": (2, 1, 1, 1, 1, 1), "line": (1, 1, 1, 0, 0, 0), "none": (2, 2, 2, 1, 0, 0), "twice": (4, 2, 2, 2, 2, 2),
        "free": (3, 1, 1, 1, 1, 1), "nought": (0, 0, 0, 0, 0, 0), "deep": (1, 4, 0, 0, -3, 0)}
OBJECTS = [Shelf(3), Hand(Shelf(3)), Place(101, CIRCLE)]
NO_NAMES = ["", "A", "1a", "abcdefghi", "a b", "a_", "-a", "a\n", "a-", "=", "/", 1, None, True, ("a",), "aB", " a"]
QUESTIONS = [(word, name) for word in ("some", "clear", "free") for name in sorted(ROWS)] + [
    ("led", one, other) for one in sorted(ROWS) for other in sorted(ROWS)]
NO_QUESTIONS = wrong_values() + OBJECTS + [
    ("some",), ("some", "conic", "line"), ("led", "conic"), ("led",), ("led", "a", "b", "c"), ["some", "conic"],
    ("Some", "conic"), ("many", "conic"), (1, "conic"), ("some", 1), ("some", None), ("some", ["conic"]),
    ("some", ("conic",)), ("led", "conic", True)] + [("some", name) for name in NO_NAMES] + [
    ("led", "conic", name) for name in NO_NAMES]
NO_ROWS = wrong_values() + OBJECTS + [
    {"a": None}, {"a": (3, 1, 1)}, {"a": (3, 1, 1, 1), "b": (3, 1, 1, 1, 1)}, {"a": cubic(9)}, {"A": cubic(3)},
    {"": cubic(3)}, {"abcdefghi": cubic(3)}, {1: cubic(3)}, {"a": [3, 1, 1, 1]}, {"a": (3, 1, 1, True)},
    {"a": (HUNDRED + 1, 0, 0, 0)}, {"a": (0, -HUNDRED - 1, 0, 0)}, {("a",): cubic(3)}, [("a", cubic(3))],
    {"a": 5, "b": cubic(3)}, {"b": cubic(3), "a": 5}, {"a": (), "b": ()}]
NO_ROWS = [value for value in NO_ROWS if value != {}]


def told_verdict(rows, question):
    row = rows[question[1]]
    if question[0] == "some":
        return count(row) >= 1
    if question[0] == "clear":
        return count(row) >= 1 and count(row) == counting(row)
    if question[0] == "free":
        return is_free(row)
    return settled(row) == settled(rows[question[2]])


def judged(rows, question, verdict, value):
    """Whether the value is a paper, by what the table of [20.1] tells."""
    if verdict is not told_verdict(rows, question):
        return False
    row = rows[question[1]]
    if question[0] == "led":
        other = rows[question[2]]
        return does_lead(row, other, value) if verdict else repr(value) == repr((settled(row), settled(other)))
    if verdict:
        return {"some": is_steps, "clear": is_parts, "free": is_free_word}[question[0]](row, value)
    if question[0] == "some" or question[0] == "clear" and not has_curves(row):
        return is_bar(row, value)
    if not is_row(value) or len(value) != len(row) or not is_exceptional(value):
        return False
    return product(row, value) < (0 if question[0] == "free" else -1)


def named(many, points=3):
    return {f"r{at}": (at,) + (0,) * points for at in range(many)}


def random_rows(chance, n, many=4):
    rows = {}
    for at in range(many):
        word = tuple(("turn",) + tuple(sorted(chance.sample(range(n), 3))) for _ in range(chance.randint(0, 3)))
        row = (chance.randint(0, 6),) + tuple(chance.randint(-1, 3) for _ in range(n))
        rows[f"r{at}"] = moved(chance.choice([row, row, cubic(n), (1,) + (0,) * n]), word)
    return rows


class Questions(unittest.TestCase):

    def test_is_question(self):
        for good in QUESTIONS + [("some", "some"), ("led", "a1", "a1"), ("free", "abcdefgh"), ("clear", "z9999999")]:
            self.assertIs(is_question(good), True)
        for wrong in NO_QUESTIONS:
            self.assertIs(is_question(wrong), False)

    def test_decide(self):
        for question in QUESTIONS:
            verdict, paper = decide(ROWS, question)
            self.assertIs(verdict, told_verdict(ROWS, question))
            self.assertIs(judged(ROWS, question, verdict, paper), True, question)
            self.assertIs(is_paper(ROWS, question, verdict, paper), True)
            self.assertIs(is_paper(ROWS, question, not verdict, paper), False)

    def test_random(self):
        chance = random.Random(220)
        seen = {}
        for _ in range(60):
            rows = random_rows(chance, chance.randint(3, 8))
            values = [()]
            for question in [(word, name) for word in ("some", "clear", "free") for name in rows] + [
                    ("led", one, other) for one in rows for other in rows]:
                verdict, paper = decide(rows, question)
                seen[question[0], verdict] = seen.get((question[0], verdict), 0) + 1
                values.append(paper)
                for value in values[-6:]:
                    for asked in (True, False):
                        told = judged(rows, question, asked, value)
                        self.assertIs(is_paper(rows, question, asked, value), told)
        self.assertTrue(len(seen) == 8 and min(seen.values()) > 10, seen)

    def test_near_papers(self):
        seen = {True: 0, False: 0}
        for question in QUESTIONS[::3] + QUESTIONS[-6:]:
            _, paper = decide(ROWS, question)
            for value in near_values(paper) + wrong_values() + OBJECTS:
                for asked in (True, False):
                    told = judged(ROWS, question, asked, value)
                    self.assertIs(is_paper(ROWS, question, asked, value), told, (question, asked, value))
                    seen[told] += 1
        self.assertTrue(min(seen.values()) > 20, seen)

    def test_papers_of_other_questions(self):
        row = ROWS["twice"]
        self.assertIs(is_paper(ROWS, ("some", "twice"), True, steps(row)), True)
        self.assertIs(is_paper(ROWS, ("clear", "twice"), True, parts(row)), False)
        self.assertIs(is_paper(ROWS, ("clear", "twice"), False, ROWS["conic"]), True)
        self.assertIs(is_paper(ROWS, ("free", "twice"), False, ROWS["conic"]), True)
        self.assertIs(is_paper(ROWS, ("free", "twice"), False, met(row)), True)
        # A row that is met but once below 0 shows that a row is not free, but not that it is not clear.
        self.assertIs(is_paper(ROWS, ("free", "conic"), False, ROWS["conic"]), True)
        self.assertIs(is_paper(ROWS, ("clear", "conic"), False, ROWS["conic"]), False)
        # Without curves only a bar shows it.
        rows = {"a": (3, 5, 0, 0), "b": (3, 1, 1, 1)}
        self.assertEqual(product(rows["a"], (1, 1, 1, 0)), -2)
        self.assertIs(is_paper(rows, ("clear", "a"), False, (1, 1, 1, 0)), False)
        self.assertIs(is_paper(rows, ("clear", "a"), False, bar(rows["a"])), True)
        self.assertIs(is_paper(rows, ("free", "a"), False, (1, 1, 1, 0)), True)
        self.assertIs(is_paper(rows, ("led", "b", "a"), True, led(rows["b"], rows["b"])), False)
        self.assertIs(is_paper(rows, ("led", "b", "b"), False, (settled(rows["b"]),) * 2), False)

    def test_wrong(self):
        refuses(self, decide, (ROWS, ("some", "conic")), 0, InvalidRow, NO_ROWS)
        refuses(self, is_paper, (ROWS, ("some", "conic"), True, ()), 0, InvalidRow, NO_ROWS)
        wrongs = NO_QUESTIONS + [("some", "other"), ("led", "conic", "other"), ("led", "other", "conic")]
        refuses(self, decide, (ROWS, ("some", "conic")), 1, InvalidOperation, wrongs)
        refuses(self, is_paper, (ROWS, ("some", "conic"), True, ()), 1, InvalidOperation, wrongs)
        no_booleans = [value for value in wrong_values() if not isinstance(value, bool)] + [0, 1, "True", (True,)]
        refuses(self, is_paper, (ROWS, ("some", "conic"), True, ()), 2, InvalidOperation, no_booleans)
        caught(self, InvalidOperation, decide, {}, ("some", "a"))
        decide(named(20), ("some", "r3"))
        caught(self, InvalidRow, decide, named(21), ("some", "r3"))
        decide({"a": (HUNDRED, -HUNDRED, HUNDRED, HUNDRED)}, ("some", "a"))

    def test_great_rows(self):
        chance = random.Random(221)
        for _ in range(30):
            n = chance.randint(3, 8)
            rows = {name: (chance.randint(0, HUNDRED),) + tuple(chance.randint(-HUNDRED, HUNDRED // 3) for _ in range(n))
                    for name in ("a", "b")}
            rows["c"] = (HUNDRED,) * (n + 1)
            rows["d"] = (HUNDRED,) + (-HUNDRED,) * n
            for question in [(word, name) for word in ("some", "clear", "free") for name in rows] + [("led", "a", "b")]:
                verdict, paper = decide(rows, question)
                self.assertIs(is_paper(rows, question, verdict, paper), True)
                self.assertIs(judged(rows, question, verdict, paper), True)


class Edits(unittest.TestCase):

    def test_is_edit(self):
        for good in [("put", "a", cubic(3)), ("put", "abcdefgh", cubic(8)), ("put", "a", (HUNDRED, -HUNDRED, 0, 0)),
                     ("drop", "a"), ("more",), ("less", 0), ("less", 7), ("move", ()), ("move", (("swap", 0, 7),)),
                     ("move", (("turn", 5, 6, 7),)), ("move", (("swap", 0, 1),) * 2000)]:
            self.assertIs(is_edit(good), True)
        wrongs = [("put", "a", cubic(9)), ("put", "a", (3, 1, 1)), ("put", "a", (HUNDRED + 1, 0, 0, 0)), ("put", "a"),
                  ("put", "a", (0, 0, 0, -HUNDRED - 1)), ("put", "a", cubic(3), 1), ("put", "a", [3, 1, 1, 1]),
                  ("put", "a", (3, 1, 1, True)), ("drop",), ("drop", "a", "b"), ("more", 1), ("more", "a"), "more", ["more"],
                  ("less",), ("less", 8), ("less", -1), ("less", True), ("less", "0"), ("less", 0, 1), ("less", None),
                  ("move",), ("move", [("swap", 0, 1)]), ("move", (("swap", 1, 0),)), ("move", (("swap", 0, 8),)),
                  ("move", (("swap", 0, 1),) * 2001), ("move", (("off", 0),)), ("move", (), ()), ("move", None),
                  ("more", ()), ("keep",), ("More",), (1,), (None,), ((),), ("put",), (("more",),), ()]
        wrongs += [("drop", name) for name in NO_NAMES] + [("put", name, cubic(3)) for name in NO_NAMES]
        for wrong in wrongs + wrong_values() + OBJECTS:
            self.assertIs(is_edit(wrong), False, wrong)
            shelf = Shelf(3, {"a": cubic(3)})
            caught(self, InvalidOperation, shelf.edit, (wrong,))
            caught(self, InvalidOperation, shelf.edit, (("more",), wrong))
            self.assertEqual(shelf.editions, 1)

    def test_done(self):
        shelf = Shelf(3, {"b": (3, 1, 1, 1), "a": (2, 1, 0, -1)})
        told = [
            (("put", "c", (1, 0, 0, 0)), 3, {"a": (2, 1, 0, -1), "b": (3, 1, 1, 1), "c": (1, 0, 0, 0)}),
            (("put", "a", (5, 0, 0, 1)), 3, {"a": (5, 0, 0, 1), "b": (3, 1, 1, 1), "c": (1, 0, 0, 0)}),
            (("drop", "c"), 3, {"a": (5, 0, 0, 1), "b": (3, 1, 1, 1)}),
            (("more",), 4, {"a": (5, 0, 0, 1, 0), "b": (3, 1, 1, 1, 0)}),
            (("less", 1), 3, {"a": (5, 0, 1, 0), "b": (3, 1, 1, 0)}),
            (("move", (("swap", 0, 2), ("turn", 0, 1, 2))), 3, {"a": (9, 4, 5, 4), "b": (4, 1, 2, 2)})]
        for at, (edit, points, rows) in enumerate(told):
            self.assertEqual(shelf.edit((edit,)), at + 2)
            self.assertEqual((shelf.points_at(), shelf.rows_at()), (points, rows))
            self.assertEqual(list(shelf.rows_at()), sorted(rows))
        whole = Shelf(3, {"b": (3, 1, 1, 1), "a": (2, 1, 0, -1)})
        self.assertEqual(whole.edit(tuple(edit for edit, _, _ in told)), 2)
        self.assertEqual(whole.rows_at(), shelf.rows_at())

    def refused(self, shelf, edits, at, word):
        before = shelf.twin()
        self.assertEqual(caught(self, Refused, shelf.edit, edits).reason, ("edit", at, word))
        self.assertEqual(shelf, before)
        self.assertEqual(shelf.history, before.history)

    def test_refused(self):
        full = Shelf(8, named(20, 8))
        small = Shelf(3, {"a": (HUNDRED, 0, 0, 0), "b": (0, HUNDRED, 0, 0)})
        for shelf, edit, word in (
                (small, ("drop", "c"), "unknown"), (small, ("less", 3), "unknown"), (small, ("less", 7), "unknown"),
                (small, ("move", (("swap", 0, 3),)), "unknown"), (small, ("move", (("turn", 1, 2, 7),)), "unknown"),
                (small, ("put", "a", cubic(4)), "points"), (small, ("put", "c", cubic(8)), "points"),
                (full, ("put", "new", cubic(8)), "many"), (full, ("more",), "many"), (small, ("less", 0), "few"),
                (small, ("less", 2), "few"), (small, ("move", (("turn", 0, 1, 2),)), "great"),
                # The first word that applies is told.
                (full, ("put", "new", cubic(7)), "points"), (small, ("less", 5), "unknown"),
                (small, ("move", (("turn", 0, 1, 2), ("swap", 0, 3))), "unknown")):
            self.refused(shelf, (edit,), 0, word)
            self.refused(shelf, (("move", ()), ("move", (("swap", 0, 1),)), edit), 2, word)
            if word in ("points", "few"):
                self.refused(shelf, (edit, ("drop", "zzz")), 0, word)
        # The nineteenth and the twentieth row, another row of twenty, the eighth point.
        shelf = Shelf(7, named(19, 7))
        self.assertEqual(shelf.edit((("put", "new", cubic(7)), ("put", "new", cubic(7)), ("put", "r0", cubic(7)))), 2)
        self.refused(shelf, (("put", "newer", cubic(7)),), 0, "many")
        self.assertEqual(shelf.edit((("drop", "new"), ("put", "newer", cubic(7)), ("more",))), 3)
        self.refused(shelf, (("more",),), 0, "many")
        # Rows on the way of a word may be greater.
        turn = ("turn", 0, 1, 2)
        self.assertEqual(small.edit((("move", (turn, turn)),)), 2)
        self.assertEqual(small.rows_at(), {"a": (HUNDRED, 0, 0, 0), "b": (0, HUNDRED, 0, 0)})
        self.refused(small, (("move", (turn,)), ("move", (turn,))), 0, "great")

    def test_numbers_of_edits(self):
        shelf = Shelf(3)
        for wrong in wrong_values() + OBJECTS + [(), [("more",)], ("more",), (("more",),) * 11, (("move", ()),) * 11]:
            caught(self, InvalidOperation, shelf.edit, wrong)
        self.assertEqual(shelf.edit((("move", ()),) * 10), 2)
        for at in range(3, 41):
            self.assertEqual(shelf.edit((("put", "a", (at, 0, 0, 0)),)), at)
        too_many(self, 40, shelf.edit, (("move", ()),))
        self.assertEqual(caught(self, Refused, shelf.edit, (("drop", "b"),)).reason, ("edit", 0, "unknown"))
        caught(self, InvalidOperation, shelf.edit, (("drop",),))
        self.assertEqual((shelf.editions, shelf.rows_at()), (40, {"a": (40, 0, 0, 0)}))
        self.assertEqual((MAX_NAMED, MAX_CLAIMS, MAX_EDITIONS, MAX_EDITS), (20, 20, 40, 10))


class Claims(unittest.TestCase):

    def test_standing(self):
        shelf = Shelf(5, {"conic": (2, 1, 1, 1, 1, 1), "twice": (4, 2, 2, 2, 2, 2)})
        self.assertEqual([shelf.pin(("clear", "twice")), shelf.pin(("some", "conic"))], [1, 2])
        self.assertEqual(shelf.standing(1)[:2], ("stands", False))
        self.assertEqual(shelf.edit((("less", 4),)), 2)
        self.assertEqual(shelf.standing(1)[:2], ("fallen", True))
        self.assertEqual(shelf.fallen, (1,))
        self.assertEqual(shelf.standing(1, 1)[:2], ("stands", False))
        self.assertEqual(shelf.edit((("drop", "twice"),)), 3)
        self.assertEqual(shelf.standing(1), ("fallen", None, None))
        self.assertEqual(shelf.edit((("put", "twice", (4, 4, 4, 0, 0)),)), 4)
        self.assertEqual(shelf.standing(1)[:2], ("another", False))
        self.assertEqual((shelf.fallen, shelf.standing(2)[1]), ((), True))
        self.assertEqual(shelf.claims, ((("clear", "twice"), False, 1), (("some", "conic"), True, 1)))

    def test_kept_papers(self):
        shelf = Shelf(4, {"a": (3, 1, 1, 1, 0), "b": (1, 1, 0, 0, 0), "c": (0, -1, 0, 0, 0)})
        for question in (("free", "a"), ("some", "b"), ("led", "a", "b"), ("free", "c")):
            shelf.pin(question)
        first = [shelf.standing(number) for number in (1, 2, 3, 4)]
        # Rows of other claims change: the papers are kept.
        shelf.edit((("put", "d", (1, 0, 0, 0, 0)),))
        self.assertEqual([shelf.standing(number) for number in (1, 2, 3, 4)], first)
        # Another free row: its word leads to a standard row as well, or is another one.
        shelf.edit((("put", "a", (2, 1, 1, 1, 0)), ("put", "b", (1, 1, 1, 0, 0))))
        self.check_all(shelf)
        self.assertEqual(shelf.standing(1)[0], "another")
        self.assertNotEqual(shelf.standing(1)[2], first[0][2])
        again = shelf.standing(1)[2]
        # A paper is kept from the edition ahead, also where decide tells another one.
        shelf.edit((("put", "a", (1, 0, 0, 0, 0)),))
        self.assertEqual(decide(shelf.rows_at(), ("free", "a")), (True, ()))
        if is_free_word((1, 0, 0, 0, 0), again):
            self.assertEqual(shelf.standing(1), ("stands", True, again))
        shelf.edit((("put", "a", (2, 1, 1, 1, 0)),))
        shelf.edit((("put", "a", (3, 1, 1, 1, 1)),))
        self.check_all(shelf)

    def check_all(self, shelf):
        """All standings, by what [20.2] tells, from the papers of the editions ahead."""
        fallen = []
        for number, (question, pinned, first) in enumerate(shelf.claims, 1):
            for edition in range(first, shelf.editions + 1):
                word, verdict, paper = shelf.standing(number, edition)
                rows = shelf.rows_at(edition)
                if not all(name in rows for name in question[1:]):
                    self.assertEqual((word, verdict, paper), ("fallen", None, None))
                    continue
                self.assertIs(verdict, told_verdict(rows, question))
                self.assertIs(is_paper(rows, question, verdict, paper), True)
                ahead = shelf.standing(number, edition - 1)[2] if edition > first else paper
                if verdict is not pinned:
                    self.assertEqual(word, "fallen")
                elif is_paper(rows, question, pinned, ahead):
                    self.assertEqual((word, paper), ("stands", ahead))
                else:
                    self.assertEqual(word, "another")
            if shelf.standing(number)[0] == "fallen":
                fallen.append(number)
            self.assertEqual(shelf.standing(number), shelf.standing(number, shelf.editions))
        self.assertEqual(shelf.fallen, tuple(fallen))

    def test_random(self):
        chance = random.Random(222)
        words = {}
        for _ in range(25):
            n = chance.randint(3, 6)
            shelf = Shelf(n, random_rows(chance, n))
            for _ in range(14):
                self.random_call(chance, shelf)
                words[shelf.standing(1)[0] if shelf.claims else None] = 1
            self.check_all(shelf)
        self.assertEqual(set(words) - {None}, {"stands", "fallen", "another"})

    def random_call(self, chance, shelf):
        names = sorted(shelf.rows_at())
        n = shelf.points_at()
        if chance.random() < 0.4 and len(shelf.claims) < 20:
            pair = (chance.choice(names), chance.choice(names))
            shelf.pin(chance.choice([("some", pair[0]), ("clear", pair[0]), ("free", pair[0]), ("led",) + pair]))
            return
        edits = [("put", chance.choice(names), random_rows(chance, n, 1)["r0"]), ("put", "new", cubic(n)),
                 ("move", (("turn",) + tuple(sorted(chance.sample(range(n), 3))),)), ("move", (("swap", 0, n - 1),))]
        edits += [("more",)] if n < 8 else []
        edits += [("less", chance.randint(0, n - 1))] if n > 3 else []
        edits += [("drop", chance.choice(names))] if len(names) > 2 else []
        shelf.edit((chance.choice(edits),))

    def test_what_does_not_fall(self):
        chance = random.Random(223)
        behind = {"more": 0, "less": 0}
        for _ in range(60):
            n = chance.randint(3, 7)
            rows = random_rows(chance, n)
            shelf = Shelf(n, rows)
            for question in [(word, name) for word in ("some", "clear", "free") for name in rows] + [
                    ("led", "r0", "r1"), ("led", "r1", "r2"), ("led", "r2", "r3"), ("led", "r0", "r3")]:
                shelf.pin(question)
            word = tuple(("turn",) + tuple(sorted(chance.sample(range(n), 3))) for _ in range(4))
            shelf.edit((("move", word),))
            self.assertEqual(shelf.fallen, ())
            for edit in (("more",), ("less", chance.randint(0, n - 1))):
                if edit[0] == "less" and n == 3:
                    continue
                other = shelf.twin()
                other.edit((edit,))
                for number in other.fallen:
                    question, verdict, _ = other.claims[number - 1]
                    behind[edit[0]] += 1
                    if edit[0] == "more":
                        self.assertEqual((question[0], verdict), ("led", False))
                    else:
                        self.assertFalse(question[0] in ("some", "free") and verdict)
        self.assertTrue(behind["less"] > 20)
        shelf = Shelf(3, {"a": (1, 1, 1, 1), "b": (0, 1, -1, 0)})
        shelf.pin(("led", "a", "b"))
        self.assertEqual((shelf.claims[0][1], shelf.edit((("more",),)), shelf.fallen), (False, 2, (1,)))

    def test_wrong(self):
        shelf = Shelf(5, ROWS)
        for wrong in NO_QUESTIONS + [("some", "other"), ("led", "conic", "other")]:
            caught(self, InvalidOperation, shelf.pin, wrong)
        for wrong in wrong_values() + [0, 1, -1]:
            self.assertIs(caught(self, InvalidNumber, shelf.standing, wrong).given, wrong)
        for at in range(20):
            self.assertEqual(shelf.pin(("some", "conic")), at + 1)
        too_many(self, 20, shelf.pin, ("some", "conic"))
        caught(self, InvalidOperation, shelf.pin, ("some", "other"))
        shelf.edit((("more",),))
        for wrong in [wrong for wrong in wrong_values() if wrong is not None] + [0, -1, 3, 41]:
            for call, args in ((shelf.rows_at, ()), (shelf.points_at, ()), (shelf.standing, (20,))):
                self.assertIs(caught(self, InvalidNumber, call, *args, wrong).given, wrong)
        self.assertEqual(caught(self, InvalidNumber, shelf.standing, 21, 0).given, 21)
        other = Shelf(3, {"a": cubic(3)})
        other.edit((("more",),))
        other.pin(("some", "a"))
        other.edit((("more",),))
        self.assertEqual(caught(self, InvalidNumber, other.standing, 1, 1).given, 1)
        self.assertEqual([other.standing(1, at)[0] for at in (2, 3, None)], ["stands", "stands", "stands"])


class Whole(unittest.TestCase):

    def test_made(self):
        refuses(self, Shelf, (5, ROWS), 0, InvalidNumber, wrong_values() + [2, 9, -3])
        refuses(self, Shelf, (5, ROWS), 1, InvalidRow, [value for value in NO_ROWS if value is not None] + [
            {"a": cubic(4)}, {"a": cubic(6)}, named(21, 5)])
        for rows in (None, {}):
            self.assertEqual(Shelf(3, rows), Shelf(3))
            self.assertEqual(Shelf(3, rows).rows_at(), {})
        self.assertEqual([Shelf(n, {"a": cubic(n)}).points_at() for n in (3, 8)], [3, 8])
        self.assertEqual(len(Shelf(5, named(20, 5))), 20)

    def test_members(self):
        shelf = Shelf(5, ROWS)
        for name in ROWS:
            self.assertIs(name in shelf, True)
        for value in wrong_values() + OBJECTS + NO_NAMES + ["other", ("conic",), ROWS["conic"]]:
            self.assertIs(value in shelf, False)
        self.assertEqual(len(shelf), 7)
        shelf.edit((("drop", "conic"), ("put", "other", cubic(5)), ("drop", "line")))
        self.assertEqual(("conic" in shelf, "other" in shelf, len(shelf)), (False, True, 6))
        self.assertEqual(str(shelf), "shelf of 6 rows at 5 points, edition 2")
        self.assertEqual(str(Shelf(3)), "shelf of 0 rows at 3 points, edition 1")
        with self.assertRaises(TypeError):
            iter(shelf)
        with self.assertRaises(TypeError):
            list(shelf)
        for operand in (1, shelf):
            with self.assertRaises(TypeError):
                shelf + operand

    def test_equal(self):
        one, other = Shelf(5, ROWS), Shelf(5, {name: ROWS[name] for name in sorted(ROWS, reverse=True)})
        self.assertIs(one == other, True)
        self.assertIs(one != other, False)
        one.edit((("more",), ("less", 5)))
        self.assertIs(one == other, False)
        other.edit((("move", ()),))
        # Equal editions, by other edits.
        self.assertIs(one == other, True)
        self.assertNotEqual(one.history, other.history)
        one.pin(("some", "conic"))
        self.assertIs(one != other, True)
        other.pin(("some", "line"))
        self.assertIs(one == other, False)
        for value in wrong_values() + OBJECTS + [ROWS, 5]:
            self.assertIs(one == value, False)
            self.assertIs(one != value, True)
            self.assertIs(value == one, False)
        self.assertIs(Shelf(3) == Shelf(4), False)

    def test_nothing_is_shared(self):
        rows = dict(ROWS)
        shelf = Shelf(5, rows)
        rows["conic"] = (7, 7, 7, 7, 7, 7)
        rows["further"] = cubic(5)
        self.assertEqual(shelf.rows_at(), ROWS)
        told = shelf.rows_at()
        told.clear()
        shelf.rows_at(1)["conic"] = None
        self.assertEqual((shelf.rows_at(), shelf.rows_at(1)), (ROWS, ROWS))
        self.assertEqual(list(shelf.rows_at()), sorted(ROWS))
        for value in (shelf.claims, shelf.fallen, shelf.history):
            self.assertIsInstance(value, tuple)
        for name in ("claims", "fallen", "history", "editions"):
            with self.assertRaises(AttributeError):
                setattr(shelf, name, ())

    def test_twin(self):
        shelf = Shelf(5, ROWS)
        shelf.pin(("some", "conic"))
        shelf.edit((("put", "conic", (2, 2, 2, 2, 2, 2)),))
        twin = shelf.twin()
        self.assertEqual(twin, shelf)
        self.assertEqual((twin.history, twin.claims, twin.fallen, twin.editions, str(twin)),
                         (shelf.history, shelf.claims, shelf.fallen, shelf.editions, str(shelf)))
        self.assertEqual(twin.fallen, (1,))
        twin.edit((("drop", "line"),))
        twin.pin(("some", "free"))
        self.assertNotEqual(twin, shelf)
        self.assertEqual((shelf.editions, len(shelf.claims), "line" in shelf, len(shelf.history)), (2, 1, True, 2))
        shelf.edit((("more",),))
        self.assertEqual((twin.editions, twin.points_at(), shelf.points_at()), (3, 5, 6))

    def test_history(self):
        shelf = Shelf(5, ROWS)
        self.assertEqual(shelf.history, ())
        calls = [("pin", ("some", "conic")), ("edit", (("more",), ("less", 0))), ("pin", ("led", "line", "free")),
                 ("edit", (("drop", "line"),))]
        for call, told in calls:
            {"pin": shelf.pin, "edit": shelf.edit}[call](told)
            for wrong in ((), (("drop", "zzz"),), None):
                with self.assertRaises((InvalidOperation, Refused)):
                    shelf.edit(wrong)
            caught(self, InvalidOperation, shelf.pin, ("some", "zzz"))
        self.assertEqual(shelf.history, tuple(calls))

    def test_no_effect(self):
        shelf = Shelf(5, ROWS)
        before = shelf.twin()
        for call, args in ((shelf.edit, ((("drop", "conic"), ("drop", "conic")),)), (shelf.pin, (("some", "zzz"),)),
                           (shelf.standing, (1,)), (shelf.rows_at, (2,)), (shelf.edit, ((("more",), None),))):
            with self.assertRaises((InvalidOperation, InvalidNumber, Refused)):
                call(*args)
            self.assertEqual(shelf, before)
            self.assertEqual((shelf.history, shelf.fallen, shelf.editions), ((), (), 1))


if __name__ == "__main__":
    unittest.main()
