import random
import unittest

from tests.kit import caught, refuses, wrong_values
from tests.test_shelf import HUNDRED, OBJECTS, ROWS, random_rows
from timesthrough.errors import InvalidOperation, ParseError
from timesthrough.house.log import log_text, read_log
from timesthrough.house.shelf import Shelf
from timesthrough.rows.rows import cubic

TOLD = """shelf 5 / conic 2 1 1 1 1 1 / twice 4 2 2 2 2 -2
pin clear twice
edit less 4
edit put conic 3 1 1 1 0 / drop twice / more / move / move swap 0 3 turn 0 1 2
pin led conic conic
"""


def told_shelf():
    shelf = Shelf(5, {"twice": (4, 2, 2, 2, 2, -2), "conic": (2, 1, 1, 1, 1, 1)})
    shelf.pin(("clear", "twice"))
    shelf.edit((("less", 4),))
    shelf.edit((("put", "conic", (3, 1, 1, 1, 0)), ("drop", "twice"), ("more",), ("move", ()),
                ("move", (("swap", 0, 3), ("turn", 0, 1, 2)))))
    shelf.pin(("led", "conic", "conic"))
    return shelf


def random_shelf(chance):
    n = chance.randint(3, 7)
    shelf = Shelf(n, random_rows(chance, n, chance.randint(1, 4)))
    for _ in range(chance.randint(0, 8)):
        names, n = sorted(shelf.rows_at()), shelf.points_at()
        if chance.random() < 0.4:
            shelf.pin((chance.choice(("some", "free", "clear")), chance.choice(names)))
        else:
            edits = [("put", f"n{chance.randint(0, 9)}", tuple(chance.randint(-9, 99) for _ in range(n + 1))),
                     ("put", names[0], cubic(n)), ("move", (("swap", 0, 1), ("turn", 0, 1, 2)))]
            edits += [("less", n - 1)] if n > 3 else [("more",)]
            shelf.edit(tuple(chance.sample(edits[:3], chance.randint(1, 2))) + tuple(edits[3:]))
    return shelf


def alike(one, other):
    return one == other and one.history == other.history and one.fallen == other.fallen


class Logs(unittest.TestCase):

    def test_told(self):
        self.assertEqual(log_text(told_shelf()), TOLD)
        shelf, many = read_log(TOLD)
        self.assertTrue(alike(shelf, told_shelf()))
        self.assertEqual(many, len(TOLD))
        self.assertEqual(log_text(Shelf(3)), "shelf 3\n")
        self.assertEqual(read_log("shelf 8\n"), (Shelf(8), 8))

    def test_read_as_it_was(self):
        chance = random.Random(240)
        for _ in range(60):
            shelf = random_shelf(chance)
            text = log_text(shelf)
            other, many = read_log(text)
            self.assertTrue(alike(other, shelf))
            self.assertEqual(many, len(text))
            self.assertEqual(log_text(other), text)
            other.edit((("put", "zz", cubic(other.points_at())),))
            self.assertNotEqual(other, shelf)

    def test_cut_at_every_place(self):
        chance = random.Random(241)
        for text in [TOLD] + [log_text(random_shelf(chance)) for _ in range(4)]:
            whole = read_log(text)[0]
            for end in range(len(text) + 1):
                lines = text[:end].count("\n")
                if lines == 0:
                    self.assertEqual(caught(self, ParseError, read_log, text[:end]).spot, 0)
                    continue
                shelf, many = read_log(text[:end])
                self.assertEqual(many, text[:end].rindex("\n") + 1)
                self.assertEqual(shelf.history, whole.history[:lines - 1])
                self.assertEqual(shelf.rows_at(1), whole.rows_at(1))

    def test_spoilt_lines(self):
        chance = random.Random(242)
        for _ in range(30):
            lines = log_text(random_shelf(chance)).split("\n")[:-1]
            for at in range(len(lines)):
                for spoilt in (lines[at] + " ", " " + lines[at], lines[at].replace(" ", "  ", 1), lines[at] + " /",
                               lines[at][:-1] + "x", "", " ", lines[at].upper(), lines[at] + "\t", lines[at] + "\r",
                               "edit", "pin", "shelf", "edit drop zzzz", "pin some zzzz", "edit less 7", "edit more more",
                               lines[at].split(" ")[0], "edit put a", "edit put a " + "1 " * 12 + "1", "said 1", "/ " + lines[at]):
                    if spoilt == lines[at]:
                        continue
                    text = "\n".join(lines[:at] + [spoilt] + lines[at + 1:]) + "\n"
                    self.assertEqual(caught(self, ParseError, read_log, text).spot, at, text)

    def test_lines_put_in_or_left_out(self):
        lines = TOLD.split("\n")[:-1]
        for at in range(1, len(lines) + 1):
            text = "\n".join(lines[:at] + [lines[0]] + lines[at:]) + "\n"
            self.assertEqual(caught(self, ParseError, read_log, text).spot, at)
        doubled = "\n".join(lines[:3] + [lines[2]] + lines[3:]) + "\n"
        self.assertEqual(caught(self, ParseError, read_log, doubled).spot, 3)
        twice = "\n".join(lines[:2] + [lines[1]]) + "\n"
        self.assertEqual(len(read_log(twice)[0].claims), 2)
        self.assertEqual(caught(self, ParseError, read_log, "\n".join(lines[1:]) + "\n").spot, 0)
        self.assertEqual(caught(self, ParseError, read_log, "\n".join(lines[:2] + lines[3:]) + "\n").spot, 2)
        self.assertEqual(caught(self, ParseError, read_log, TOLD + "\n").spot, 5)
        self.assertEqual(caught(self, ParseError, read_log, TOLD + "edit drop twice\n").spot, 5)

    def test_what_would_not_be_written(self):
        for line in ("shelf 05", "shelf +5", "shelf 5 ", "shelf  5", "shelf -5", "shelf 2", "shelf 9", "shelf five", "shelf",
                     "shelf 5 /", "shelf 5 / a", "shelf 5 / a 1 1 1 1 1", "shelf 5 / a 1 1 1 1 1 1 1",
                     "shelf 5 / a 1 1 1 1 1 01", "shelf 5 / a 1 1 1 1 1 -0", "shelf 5 / a 1 1 1 1 1 +1",
                     "shelf 5 / b 1 1 1 1 1 1 / a 1 1 1 1 1 1", "shelf 5 / a 1 1 1 1 1 1 / a 1 1 1 1 1 1",
                     "shelf 5 / a 1 1 1 1 1 1 /", "shelf 5 / A 1 1 1 1 1 1", "shelf 5 / a 1 1 1 1 1 1_0",
                     "shelf 5 / a 1 1 1 1 1 1 / b 1 1 1 1 1", f"shelf 5 / a 1 1 1 1 1 {HUNDRED + 1}", "shelf 5 a 1 1 1 1 1 1",
                     "shelf 5 / a 1 1 1 1 1 1.0", "Shelf 5", "shelf 5 6", "shelf " + "5" * 300):
            self.assertEqual(caught(self, ParseError, read_log, line + "\n").spot, 0, line)
        start = "shelf 5 / a 1 1 1 1 1 1\nedit more\n"
        for line in ("edit put b 01 1 1 1 1 1 1", "edit put b 1 1 1 1 1 1 -0", "edit less 05", "edit less -1", "edit less +1",
                     "edit less 8", "edit less 6", "edit less", "edit less a", "edit less 1 2", "edit  less 1", "edit less 1 /",
                     "edit / less 1", "edit less 1 / / more", "edit drop", "edit drop b", "edit drop a b", "edit more 1",
                     "edit move swap 0", "edit move swap 1 0", "edit move swap 0 1 2", "edit move turn 0 1", "edit move 0 1",
                     "edit move swap 00 1", "edit move swap 0 6", "edit move off 1", "edit move swap 0 1 ", "edit move turn",
                     "edit put", "edit put a", "edit put A 1 1 1 1 1 1 1", "edit " + "more / " * 10 + "more", "edit none",
                     "edit" + " / ".join([" move"] * 11), "pin", "pin some", "pin some b", "pin some a a", "pin led a", "pin  some a",
                     "pin some a ", "pin Some a", "pin led a a a", "ask some a", "drop a", "pin many a",
                     f"edit put b {HUNDRED + 1} 1 1 1 1 1 1", "edit put b 1 1 1 1 1 1 1 1"):
            self.assertEqual(caught(self, ParseError, read_log, start + line + "\n").spot, 2, line)
            self.assertEqual(caught(self, ParseError, read_log, start + line + "\nwrong\n").spot, 2)
            # Without a newline the line is left out.
            self.assertEqual(read_log(start + line)[1], len(start))
        for line in ("edit move", "edit less 5", "edit more / more", "edit put a 1 1 1 1 1 1 -1", "pin led a a",
                     f"edit put b {HUNDRED} -{HUNDRED} 0 1 1 1 1", "edit move swap 0 5 turn 3 4 5",
                     "edit " + " / ".join(["move"] * 10)):
            shelf, many = read_log(start + line + "\n")
            self.assertEqual((log_text(shelf), many), (start + line + "\n", len(start + line) + 1))

    def test_limits(self):
        text = "shelf 3 / a 1 0 0 0\n" + "pin some a\n" * 20
        self.assertEqual(len(read_log(text)[0].claims), 20)
        self.assertEqual(caught(self, ParseError, read_log, text + "pin some a\n").spot, 21)
        text = "shelf 3 / a 1 0 0 0\n" + "edit move\n" * 39
        self.assertEqual(read_log(text)[0].editions, 40)
        self.assertEqual(caught(self, ParseError, read_log, text + "edit move\n").spot, 40)
        long = "shelf 3\n" + "edit move" + " swap 0 1" * 2000 + "\n"
        self.assertEqual(log_text(read_log(long)[0]), long)
        longer = "shelf 3\n" + "edit move" + " swap 0 1" * 2001 + "\n"
        self.assertEqual(caught(self, ParseError, read_log, longer).spot, 1)

    def test_wrong(self):
        refuses(self, log_text, (Shelf(3),), 0, InvalidOperation, wrong_values() + ["shelf 3\n", ROWS] + OBJECTS[1:])
        for wrong in wrong_values() + OBJECTS:
            spot = caught(self, ParseError, read_log, wrong).spot
            self.assertEqual(spot, 0 if isinstance(wrong, str) else None)
        for text in ("", "shelf 5", "\n", " \n", "x\n" * 5, "a" * 20000 + "\n"):
            self.assertEqual(caught(self, ParseError, read_log, text).spot, 0)


if __name__ == "__main__":
    unittest.main()
