import random
import unittest

from tests.kit import caught, refuses, wrong_values
from tests.test_shelf import HUNDRED, NO_NAMES, OBJECTS, QUESTIONS, ROWS
from timesthrough.count.counts import count
from timesthrough.count.parts import parts
from timesthrough.count.steps import settled
from timesthrough.errors import InvalidOperation
from timesthrough.house.hands import Hand
from timesthrough.house.shelf import Shelf, decide, is_paper
from timesthrough.text.shell import MAX_LINE, Shell
from timesthrough.text.texts import read_row, read_value, write_row, write_value, write_word

WORD = (("swap", 0, 3), ("turn", 0, 1, 4))

# Lines that are done, with the call of the shelf that each tells.
CALLS = [
    ("put a = 2 1 1 0 0 0", ("edit", (("put", "a", (2, 1, 1, 0, 0, 0)),))),
    ("put conic = -2 1 -1 0 0 12", ("edit", (("put", "conic", (-2, 1, -1, 0, 0, 12)),))),
    (f"put a1234567 = {HUNDRED} -{HUNDRED} 0 0 0 0", ("edit", (("put", "a1234567", (HUNDRED, -HUNDRED, 0, 0, 0, 0)),))),
    ("drop line", ("edit", (("drop", "line"),))),
    ("more", ("edit", (("more",),))),
    ("less 4", ("edit", (("less", 4),))),
    ("less 0", ("edit", (("less", 0),))),
    ("move 0-3 0-1-4", ("edit", (("move", WORD),))),
    ("move", ("edit", (("move", ()),))),
    ("  move   0-1  ", ("edit", (("move", (("swap", 0, 1),)),))),
] + [("pin " + " ".join(question), ("pin", question)) for question in QUESTIONS]

# Lines with a piece that cannot stand where it stands, and the index that is told.
WRONG = [
    ("x", 0), ("  x y", 2), ("Put a = 1 1 1 1", 0), ("put", 3), ("put ", 4), ("put a", 5), ("put a ", 6), ("put a =", 7), ("put a = ", 8),
    ("put A = 1", 4), ("put a 1", 6), ("put a == 1", 6), ("put a=1", 4), ("put a= 1", 4), ("put a =1", 6), ("put = a 1", 4), ("put a = x", 8),
    ("put a = 1 x 2", 10), ("put a = 01", 8), ("put a = 1 -0 x", 10), ("put a = 1 +1", 10), ("put a = 1 = 1", 10),
    ("put abcdefghi = 1", 4), ("put 1a = 1", 4), ("put a = 1" + "0" * 200, 8), ("drop", 4), ("drop  ", 6), ("drop A", 5), ("drop a b", 7),
    ("drop a  =", 8), ("more 1", 5), ("more  a b", 6), ("less", 4), ("less a", 5), ("less 1 2", 7), ("less 01", 5), ("less -0", 5),
    ("move 0", 5), ("move 0-1 0", 9), ("move swap 0 1", 5), ("move 0-1-2-3", 5), ("move 0-100", 5), ("move 00-1", 5), ("move 0-1 -", 9),
    ("ask", 3), ("ask some", 8), ("ask some ", 9), ("ask a", 4), ("ask many a", 4), ("ask Some a", 4), ("ask some A", 9), ("ask some a b", 11),
    ("ask led", 7), ("ask led a", 9), ("ask led a ", 10), ("ask led a b c", 12), ("ask led A b", 8), ("ask led a B", 10), ("ask led A B", 8),
    ("pin", 3), ("pin a", 4), ("pin free", 8), ("pin free 1", 9), ("pin free a a", 11), ("pin led a 1 2", 10), ("pin led a b led", 12),
    ("stand", 5), ("stand a", 6), ("stand 1 1", 8), ("stand 01", 6), ("count", 5), ("count A", 6), ("count a a", 8), ("count 1", 6),
    ("settle", 6), ("settle A", 7), ("settle a 1", 9), ("parts", 5), ("parts A", 6), ("parts a a", 8), ("names a", 6), ("names  1", 7),
    ("name", 0), ("edit more", 0), ("=", 0), ("1", 0), ("move,0-1", 0), ("standing 1", 0), ("put put put", 8), ("none", 0), ("question a", 0),
]

# Lines that are not done for other errors.
INVALID = ["count b", "settle b", "parts b", "ask some b", "ask clear b", "ask free b", "ask led a b", "ask led b a", "pin some b", "pin led b b",
           "stand 0", "stand 1", "stand -1", "stand 21", f"stand {10 ** 200 - 1}", "less 8", "less -1", f"less {10 ** 150}", "put a = 1",
           "put b = 1 1 1", "put b = " + "1 " * 10, "put b = " + "1 " * 17, f"put b = {HUNDRED + 1} 0 0 0 0 0", f"put b = 0 0 0 0 0 -{HUNDRED + 1}",
           "move 1-0", "move 0-0", "move 0-2-1", "move 0-8", "move 0-99", "move 0-1-8"]

# Lines with an edit that is refused on a shelf of five points, and the word.
REFUSED = [("drop b", "unknown"), ("drop zzzzzzzz", "unknown"), ("less 5", "unknown"), ("less 7", "unknown"), ("move 0-5", "unknown"),
           ("move 0-1 5-6-7", "unknown"), ("put a = 1 1 1 1", "points"), ("put b = 1 1 1 1 1 1 1", "points"),
           ("put b = 1 1 1 1 1 1 1 1 1", "points")]


def state(shelf):
    return (shelf.history, shelf.claims, shelf.editions, shelf.rows_at(), shelf.fallen)


class Shells(unittest.TestCase):

    def test_told(self):
        shelf = Shelf(5, {"conic": (2, 1, 1, 1, 1, 1)})
        shell = Shell(shelf)
        lines = ("put twice = 4 2 2 2 2 2", "ask clear twice", "pin clear twice", "less 4", "stand 1", "count twice", "settle conic",
                 "parts twice", "names", "", "put none = 1 1 1 1 0", "parts none", "count none")
        self.assertEqual(shell.run(lines), (
            "edition 2", "no (2 1 1 1 1 1)", "claim 1", "edition 3", "fallen", "3", "1 1 0 0 0",
            "((4 2 2 2 2) ())", "conic twice", "", "edition 4", "none", "0"))
        self.assertEqual((shell.said, str(shell)), (13, "shell, 13 lines said"))
        self.assertEqual(shelf.rows_at()["none"], (1, 1, 1, 1, 0))

    def test_calls(self):
        for line, (word, told) in CALLS:
            shelf, other = Shelf(5, ROWS), Shelf(5, ROWS)
            answer = Shell(shelf).say(line)
            if word == "edit":
                self.assertEqual(answer, f"edition {other.edit(told)}")
            else:
                self.assertEqual(answer, f"claim {other.pin(told)}")
            self.assertEqual((shelf, shelf.history), (other, other.history), line)

    def test_numbers_go_on(self):
        shelf = Shelf(5, ROWS)
        shell = Shell(shelf)
        for many in range(2, 6):
            self.assertEqual(shell.say("more" if many % 2 else "less 4"), f"edition {many}")
            self.assertEqual(shell.say("pin free line"), f"claim {many - 1}")
        self.assertEqual([claim[2] for claim in shelf.claims], [2, 3, 4, 5])

    def test_questions(self):
        chance = random.Random(261)
        for _ in range(20):
            n = chance.randint(3, 8)
            rows = {name: tuple(chance.randint(-1, 4) for _ in range(n + 1)) for name in ("a", "b", "c1")}
            rows["a"] = (chance.randint(3, 9),) + rows["a"][1:]
            shell = Shell(Shelf(n, rows))
            for question in [(word, name) for word in ("some", "clear", "free") for name in rows] + [("led", "a", "b"), ("led", "b", "b")]:
                answer = shell.say("ask " + " ".join(question))
                verdict, paper = decide(rows, question)
                self.assertEqual(answer, ("yes " if verdict else "no ") + write_value(paper))
                told = read_value(answer.partition(" ")[2])
                self.assertIs(is_paper(rows, question, answer.startswith("yes "), told), True)
            for name in rows:
                self.assertEqual(shell.say(f"count {name}"), str(count(rows[name])))
                self.assertEqual(shell.say(f"settle {name}"), write_row(settled(rows[name])))
                self.assertEqual(read_row(shell.say(f"settle {name}")), settled(rows[name]))
                told = shell.say(f"parts {name}")
                self.assertEqual(read_value(told), parts(rows[name]) if count(rows[name]) else None)
                self.assertEqual(told == "none", count(rows[name]) == 0)
            self.assertEqual(shell.say("names"), "a b c1")

    def test_standing(self):
        shelf = Shelf(5, {"a": (4, 2, 2, 2, 2, 2), "b": (3, 1, 1, 1, 1, 1)})
        shell = Shell(shelf)
        shell.run(("pin clear a", "pin some a", "pin led a b", "pin free b"))
        for line in ("less 4", "put a = 2 2 2 1 0", "drop b", "more", "put b = 1 1 1 0 0 0", "put a = 2 1 1 1 1 1"):
            self.assertEqual(shell.say(line).partition(" ")[0], "edition")
            for number in range(1, 5):
                self.assertEqual(shell.say(f"stand {number}"), shelf.standing(number)[0])
        self.assertEqual({shelf.standing(number, edition)[0] for number in range(1, 5) for edition in range(1, 8)},
                         {"stands", "another", "fallen"})

    def test_last_edition(self):
        shelf = Shelf(3, {"a": (1, 1, 0, 0)})
        shell = Shell(shelf)
        self.assertEqual(shell.run(("count a", "ask free a", "parts a")), ("2", "yes ()", "((1 1 0 0) ())"))
        shelf.edit((("put", "a", (1, 1, 1, 1)), ("put", "b", (0, 0, 0, -1))))
        self.assertEqual(shell.run(("count a", "names", "count b", "settle b", "parts b")),
                         ("0", "a b", "1", "0 0 0 -1", "((0 0 0 0) (((0 0 0 -1) 1)))"))
        self.assertEqual(shell.say("ask led b b"), "yes ()")
        self.assertEqual(Shell(Shelf(4)).run(("names", "", "   ")), ("", "", ""))
        names = {name: (0, 0, 0, 0) for name in ("b", "a9", "a", "ab", "z", "a0")}
        self.assertEqual(Shell(Shelf(3, names)).say("names"), "a a0 a9 ab b z")

    def test_wrong_pieces(self):
        shelf = Shelf(5, {"a": (3, 1, 1, 1, 1, 1)})
        shell, before = Shell(shelf), state(shelf)
        for at, (line, index) in enumerate(WRONG):
            self.assertEqual(shell.say(line), f"wrong at {index}", line)
            self.assertEqual((state(shelf), shell.said), (before, at + 1))
        for name in NO_NAMES[1:]:
            if isinstance(name, str) and name.isprintable() and " " not in name:
                for word in ("drop", "count", "settle", "parts", "ask some", "pin led", "pin led a", "put"):
                    self.assertEqual(shell.say(f"{word} {name}"), f"wrong at {len(word) + 1}")

    def test_invalid(self):
        shelf = Shelf(5, {"a": (3, 1, 1, 1, 1, 1)})
        shell, before = Shell(shelf), state(shelf)
        for line in INVALID:
            self.assertEqual(shell.say(line), "invalid", line)
            self.assertEqual(state(shelf), before)

    def test_refused(self):
        shelf = Shelf(5, {"a": (3, 1, 1, 1, 1, 1)})
        shell, before = Shell(shelf), state(shelf)
        for line, word in REFUSED:
            self.assertEqual(shell.say(line), f"refused {word}", line)
            self.assertEqual(state(shelf), before)
        many = {f"n{at}": (0,) * 9 for at in range(20)}
        shell = Shell(Shelf(8, many))
        self.assertEqual(shell.say("put a = 0 0 0 0 0 0 0 0 0"), "refused many")
        self.assertEqual(shell.say("put n0 = 0 0 0 0 0 0 0 0 1"), "edition 2")
        self.assertEqual(shell.say("more"), "refused many")
        self.assertEqual(shell.say("less 8"), "invalid")
        shell = Shell(Shelf(3, {"a": (HUNDRED, 0, 0, 0)}))
        self.assertEqual(shell.say("less 2"), "refused few")
        self.assertEqual(shell.say("less 3"), "refused unknown")
        self.assertEqual(shell.say("move 0-1-2"), "refused great")
        self.assertEqual(shell.say("move 0-1 0-2"), "edition 2")

    def test_too_many(self):
        shelf = Shelf(3, {"a": (1, 0, 0, 0)})
        shell = Shell(shelf)
        self.assertEqual(shell.run(("pin some a",) * 21), tuple(f"claim {at}" for at in range(1, 21)) + ("too many 20",))
        self.assertEqual(shell.run(("move",) * 40), tuple(f"edition {at}" for at in range(2, 41)) + ("too many 40",))
        self.assertEqual((len(shelf.claims), shelf.editions, len(shelf.history), shell.said), (20, 40, 59, 61))
        self.assertEqual([shell.say(line) for line in ("less 2", "drop b", "pin some b", "drop a")],
                         ["refused few", "refused unknown", "invalid", "too many 40"])

    def test_lines(self):
        shell = Shell(Shelf(5, ROWS))
        self.assertEqual(MAX_LINE, 2000)
        self.assertEqual(shell.say("count conic" + " " * 1989), "1")
        self.assertEqual(shell.say(" " * 2000), "")
        self.assertEqual(shell.say("move" + " 0-1" * 499), "edition 2")
        said = shell.said
        no_lines = [value for value in wrong_values() if not (isinstance(value, str) and len(value) <= 2000 and value.isprintable())]
        no_lines += OBJECTS + [" " * 2001, "count conic" + " " * 1990, "count\tconic", "count conic\n", "\n", "count \x7f", "caf\u00e9", "\u0663",
                               ["names"], ("names",)]
        refuses(self, shell.say, ("names",), 0, InvalidOperation, no_lines)
        for line in no_lines:
            if line != ():
                caught(self, InvalidOperation, shell.run, ("names", "more", line))
        self.assertEqual((shell.said, shell.say("names").count(" ")), (said, len(ROWS) - 1))

    def test_run(self):
        shelf = Shelf(5, ROWS)
        shell = Shell(shelf)
        self.assertEqual(shell.run(()), ())
        self.assertEqual(shell.run(("x", "more", "count none", "more", "names ", "less 9")),
                         ("wrong at 0", "edition 2", "0", "edition 3", " ".join(sorted(ROWS)), "invalid"))
        self.assertEqual(shell.run(("",) * 40), ("",) * 40)
        self.assertEqual(shell.said, 46)
        before = state(shelf)
        refuses(self, shell.run, ((),), 0, InvalidOperation,
                [value for value in wrong_values() + OBJECTS if value != ("a", "b")] + ["more", ["more"], ("more",) * 41, ("more", None), ("more", "\n")])
        self.assertEqual((state(shelf), shell.said), (before, 46))

    def test_shares_the_shelf(self):
        shelf = Shelf(5, ROWS)
        one, other = Shell(shelf), Shell(shelf)
        self.assertEqual([one.say("drop conic"), other.say("count conic"), other.say("more"), one.say("names").count(" ")],
                         ["edition 2", "invalid", "edition 3", len(ROWS) - 2])
        self.assertEqual((one.said, other.said, shelf.editions), (2, 2, 3))
        hand = Hand(shelf)
        one.say("put conic = 1 1 1 1 1 1 1")
        hand.change(("put", "zz", (0,) * 7))
        self.assertEqual(hand.commit(), 5)
        self.assertEqual(one.say("count zz"), "1")
        refuses(self, Shell, (shelf,), 0, InvalidOperation, wrong_values() + OBJECTS[1:] + [one, "shelf 5"])

    def test_as_an_object(self):
        shell = Shell(Shelf(3))
        self.assertEqual((shell.said, str(shell)), (0, "shell, 0 lines said"))
        shell.say("")
        self.assertEqual((shell.said, str(shell)), (1, "shell, 1 lines said"))
        with self.assertRaises(TypeError):
            iter(shell)
        with self.assertRaises(AttributeError):
            shell.said = 3

    def test_random_lines(self):
        chance = random.Random(262)
        words = ["put", "a", "=", "1", "-2", "drop", "more", "less", "move", "0-1", "0-1-2", "ask", "some", "led", "pin", "stand", "count", "settle",
                 "parts", "names", "b", "clear", "free", "A", "3 1 1 1", "0-3"]
        shelf = Shelf(3, {"a": (3, 1, 1, 1)})
        shell = Shell(shelf)
        for at in range(3000):
            line = " ".join(chance.choice(words) for _ in range(chance.randint(0, 5)))
            if chance.random() < 0.7:
                line = chance.choice(["put a = 3 1 0 ", "put b = 1 1 ", "move ", "ask ", "ask some ", "count ", "less ", "stand ", "pin led a "]) + line
            before, answer = state(shelf), shell.say(line)
            done = answer.partition(" ")[0] in ("edition", "claim")
            self.assertEqual(done, state(shelf) != before)
            if done:
                twin = shelf.twin()
                self.assertEqual(len(before[0]) + 1, len(twin.history))
            self.assertIn(answer.partition(" ")[0].strip("-0123456789()"),
                          ("", "edition", "claim", "yes", "no", "wrong", "refused", "too", "invalid", "a", "b", "none", "stands", "another", "fallen"))
            if shelf.editions == 40 or len(shelf.claims) == 20:
                shelf = Shelf(3, {"a": (3, 1, 1, 1)})
                shell = Shell(shelf)

    def test_written_words(self):
        for word in ((), WORD, (("turn", 2, 3, 4),) * 3):
            shelf = Shelf(5, ROWS)
            self.assertEqual(Shell(shelf).say("move " + write_word(word)), "edition 2")
            self.assertEqual(shelf.history, (("edit", (("move", word),)),))


if __name__ == "__main__":
    unittest.main()
