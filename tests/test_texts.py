import random
import re
import unittest

from tests.kit import CIRCLE, FIVE, FOUR, GENERAL, PRIME, caught, deep, refuses, wrong_values
from tests.test_shelf import HUNDRED, OBJECTS
from timesthrough.count.steps import settling
from timesthrough.errors import InvalidNumber, InvalidOperation, InvalidPoints, InvalidRow, InvalidWord, ParseError
from timesthrough.plane.points import are_points
from timesthrough.rows.moves import is_word
from timesthrough.rows.rows import is_row
from timesthrough.text.texts import read_points, read_row, read_value, read_word, write_points, write_row, write_value, write_word

MOST = 20000
LONGEST = 10 ** 200 - 1
ROW_TEXTS = ["4 2 2 2 2 2 0", "0 0 0 0", "-10 5 -1 0 12 -7", " ".join(["10"] * 17), f"{LONGEST} -{LONGEST} 0 1"]
WORD_TEXTS = ["", "0-3", "0-1-4", "0-3 0-1-4 2-10-15 14-15"]
POINTS_TEXTS = ["101 / 0,0,1 1,1,1 2,4,1", "65521 / 1,0,0 7243,51911,1 0,1,0 12,1,0", "5 / 1,0,0 0,1,0 0,0,1 1,1,1"]
VALUES = [None, 0, -3, LONGEST, -LONGEST, "a", "rulings", "abcdefgh", (), ((),), ("turn", 0, (None, -3)), (None,) * 3,
          deep("tuple", (), 7), deep("tuple", 1, 8), (1, (2, (3, "x"), ()), ((), ())), ("none", None), (0, 0, -10)]
SIGNS = "0123456789-/,' ()nonexz\t\nA+_."


def pieces(text):
    return [(found.start(), found.group()) for found in re.finditer("[^ ]+", text)]


def integer(piece):
    return re.fullmatch("-?[1-9][0-9]{0,199}|0", piece) is not None


def integers(piece, sign, least, most, digits):
    parts = piece.split(sign)
    return least <= len(parts) <= most and all(
        re.fullmatch("[1-9][0-9]*|0", part) is not None and len(part) <= digits for part in parts)


def told_row(text):
    """What read_row returns, or the error with what it keeps, from the words of [22.1]."""
    for at, piece in pieces(text):
        if not integer(piece):
            return (ParseError, at)
    row = tuple(int(piece) for _, piece in pieces(text))
    return row if is_row(row) else (InvalidRow, None)


def told_word(n, text):
    for at, piece in pieces(text):
        if not integers(piece, "-", 2, 3, 2):
            return (ParseError, at)
    word = tuple((("swap", "turn")[piece.count("-") - 1],) + tuple(int(part) for part in piece.split("-"))
                 for _, piece in pieces(text))
    return word if is_word(n, word) else (InvalidWord, None)


def told_points(text):
    found = pieces(text)
    for at, (index, piece) in enumerate(found):
        if not (integer(piece) if at == 0 else piece == "/" if at == 1 else integers(piece, ",", 3, 3, 5)):
            return (ParseError, index)
    if len(found) < 2:
        return (ParseError, len(text))
    prime = int(found[0][1])
    if prime < 5 or prime > 65521 or any(prime % low == 0 for low in range(2, 256) if low < prime):
        return (InvalidNumber, prime)
    points = tuple(tuple(int(part) for part in piece.split(",")) for _, piece in found[2:])
    return (prime, points) if are_points(prime, points) else (InvalidPoints, None)


def goes_on(text):
    """Whether some text of a told value begins with this one; by lists of what may stand next."""
    open_brackets, state = 0, "value"
    at = 0
    while at < len(text):
        if state == "value" or state == "first":
            if text[at] == "(" and open_brackets < 8:
                open_brackets, state, at = open_brackets + 1, "first", at + 1
            elif text[at] == ")" and state == "first":
                open_brackets, state, at = open_brackets - 1, "behind", at + 1
            else:
                found = re.match("none|'[a-z]{1,8}|-?[1-9][0-9]{0,199}|0", text[at:])
                if found is None:
                    return text[at:] in ("n", "no", "non", "'", "-")
                state, at = "behind", at + found.end()
        elif text[at] == ")" and open_brackets > 0:
            open_brackets, at = open_brackets - 1, at + 1
        elif text[at] == " " and open_brackets > 0:
            state, at = "value", at + 1
        else:
            return False
    return True


def told_spot(text):
    """The first index at which no text of a told value goes on."""
    for end in range(1, len(text) + 1):
        if not goes_on(text[:end]):
            return end - 1
    return len(text)


def spoilt(text, chance, many):
    """Texts with one sign put in, left out or exchanged."""
    found = []
    places = range(len(text) + 1) if len(text) < 60 else sorted(chance.sample(range(len(text) + 1), 60))
    for at in places:
        found.append(text[:at] + text[at + 1:])
        for sign in chance.sample(SIGNS, many):
            found.append(text[:at] + sign + text[at:])
            found.append(text[:at] + sign + text[at + 1:])
    return found


class Texts(unittest.TestCase):

    def judge(self, told, call, *args):
        """The call returns what is told, or raises the told error with what it keeps."""
        if isinstance(told, tuple) and len(told) == 2 and isinstance(told[0], type):
            raised = caught(self, told[0], call, *args)
            if told[0] is ParseError:
                self.assertEqual(raised.spot, told[1], args)
            if told[0] is InvalidNumber:
                self.assertEqual(raised.given, told[1], args)
        else:
            self.assertEqual(repr(call(*args)), repr(told), args)

    def test_told(self):
        self.assertEqual(write_row(FOUR), "4 2 2 2 2 2 0")
        self.assertEqual(write_word((("swap", 0, 3), ("turn", 0, 1, 4))), "0-3 0-1-4")
        self.assertEqual(write_points(101, CIRCLE[:3]), "101 / 0,0,1 1,1,1 2,4,1")
        self.assertEqual(read_row(" 2 1 1  -1"), (2, 1, 1, -1))
        self.assertEqual(write_value(("turn", 0, (None, -3))), "('turn 0 (none -3))")

    def test_read_as_written(self):
        for text in ROW_TEXTS:
            self.assertEqual(write_row(read_row(text)), text)
        for text in WORD_TEXTS:
            self.assertEqual(write_word(read_word(16, text)), text)
        for text in POINTS_TEXTS:
            self.assertEqual(write_points(*read_points(text)), text)
        for row in (FIVE, (1,) * 17, (-1, 0, 5, -LONGEST)):
            self.assertEqual(read_row(write_row(row)), row)
        for word in ((), settling((60, 30, 20, 20, 19, 18, 17, 3)), (("swap", 14, 15),) * 2000, (("turn", 0, 9, 10),) * 2000):
            self.assertEqual(read_word(16, write_word(word)), word)
        points = GENERAL + tuple((at, at * at, 1) for at in range(2, 9))
        for prime, some in ((PRIME, GENERAL), (PRIME, points), (101, CIRCLE)):
            self.assertEqual(read_points(write_points(prime, some)), (prime, some))
        for value in VALUES:
            self.assertEqual(repr(read_value(write_value(value))), repr(value))
        self.assertEqual(read_word(3, ""), ())
        self.assertEqual(read_word(3, "  "), ())

    def test_random_values(self):
        chance = random.Random(251)
        for _ in range(300):
            value = self.value(chance, 8)
            text = write_value(value)
            self.assertEqual(repr(read_value(text)), repr(value))
            self.assertEqual(told_spot(text), len(text))

    def value(self, chance, levels):
        kind = chance.randint(0, 5)
        if kind < 3 and levels > 0:
            return tuple(self.value(chance, levels - 1) for _ in range(chance.randint(0, 3)))
        if kind == 3:
            return "".join(chance.choice("abnez") for _ in range(chance.randint(1, 8)))
        return chance.choice([None, 0, chance.randint(-20, 20), chance.randint(-LONGEST, LONGEST)])

    def test_other_blanks(self):
        chance = random.Random(252)
        for texts, read in ((ROW_TEXTS, read_row), (POINTS_TEXTS, read_points), (WORD_TEXTS, lambda text: read_word(16, text))):
            for text in texts:
                for _ in range(6):
                    other = " " * chance.randint(0, 3) + "".join(
                        sign + " " * chance.choice((0, 1, 5)) if sign == " " else sign for sign in text) + " " * chance.randint(0, 3)
                    self.assertEqual(read(other), read(text))
        for text, spot in ((" 1", 0), ("1 ", 1), ("(1  2)", 3), ("( 1)", 1), ("(1 )", 3), (" ", 0), ("'a ", 2), ("() ", 2)):
            self.assertEqual(caught(self, ParseError, read_value, text).spot, spot)

    def test_rows_spoilt(self):
        chance = random.Random(253)
        for text in ROW_TEXTS:
            for other in spoilt(text, chance, 8):
                self.judge(told_row(other), read_row, other)
        for text, told in (("", (InvalidRow, None)), ("  ", (InvalidRow, None)), ("1 2 3", (InvalidRow, None)),
                           ("1 2 3 x", (ParseError, 6)), ("x", (ParseError, 0)), ("  1 01 a", (ParseError, 4)),
                           ("1 1 1 -0", (ParseError, 6)), ("1 1 1 +1", (ParseError, 6)), ("1 1 1 --1", (ParseError, 6)),
                           ("1 1 1 -", (ParseError, 6)), ("1 1 1 1_0", (ParseError, 6)), ("1 1 1 1\t", (ParseError, 6)),
                           ("1\n1 1 1", (ParseError, 0)), (" ".join(["1"] * 18), (InvalidRow, None)),
                           (" ".join(["1"] * 18) + " 1.0", (ParseError, 36)), ("1 1 1 1 / 1", (ParseError, 8))):
            self.assertEqual(told_row(text), told)
            self.judge(told, read_row, text)

    def test_words_spoilt(self):
        chance = random.Random(254)
        for text in WORD_TEXTS:
            for other in spoilt(text, chance, 8):
                for n in (3, 5, 16):
                    self.judge(told_word(n, other), read_word, n, other)
        for text, told in (("0", (ParseError, 0)), ("0-1 0-1-2-3", (ParseError, 4)), ("0-1 00-1", (ParseError, 4)), ("0--1", (ParseError, 0)),
                           ("-0-1", (ParseError, 0)), ("0-100", (ParseError, 0)), ("0-99", (InvalidWord, None)),
                           ("1-0", (InvalidWord, None)), ("0-0", (InvalidWord, None)), ("0-2-1", (InvalidWord, None)),
                           ("1-0 x", (ParseError, 4)), ("0 - 1", (ParseError, 0)), ("0-1-", (ParseError, 0)), ("swap-0-1", (ParseError, 0)),
                           (" ".join(["0-1"] * 2001), (InvalidWord, None)), ("0-1\t", (ParseError, 0))):
            self.assertEqual(told_word(16, text), told)
            self.judge(told, read_word, 16, text)
        for n in range(3, 17):
            self.assertEqual(read_word(n, f"0-{n - 1}"), (("swap", 0, n - 1),))
            caught(self, InvalidWord, read_word, n, f"0-{n}")
            caught(self, InvalidWord, read_word, n, f"0-1-{n}")

    def test_points_spoilt(self):
        chance = random.Random(255)
        for text in POINTS_TEXTS:
            for other in spoilt(text, chance, 8):
                self.judge(told_points(other), read_points, other)
        three = " 0,0,1 1,1,1 2,4,1"
        for text, told in (("", (ParseError, 0)), ("  ", (ParseError, 2)), ("101", (ParseError, 3)), ("101 ", (ParseError, 4)),
                           ("x", (ParseError, 0)), ("/", (ParseError, 0)), ("101" + three, (ParseError, 4)), ("101 /", (InvalidPoints, None)),
                           ("9 /" + three, (InvalidNumber, 9)), ("-7 /" + three, (InvalidNumber, -7)), ("0 /", (InvalidNumber, 0)),
                           ("9 / x", (ParseError, 4)), ("101 //" + three, (ParseError, 4)), ("101 / /" + three, (ParseError, 6)),
                           ("101 /" + three + " 0,0,1", (InvalidPoints, None)), ("101 / 0,0,1 1,1,1", (InvalidPoints, None)),
                           ("101 / 0,0,1 1,1,1 101,1,0", (InvalidPoints, None)), ("101 / 0,0,1 1,1,1 1,1", (ParseError, 18)),
                           ("101 / 0,0,1 1,1,1 1,1,1,1", (ParseError, 18)), ("101 / 0,0,1 1,1,1 -1,1,1", (ParseError, 18)),
                           ("101 / 0,0,1 1,1,1 99999,1,1", (InvalidPoints, None)), ("101 / 0,0,1 1,1,1 100000,1,1", (ParseError, 18)),
                           ("101 / 0,0,1 1,1,1 01,1,1", (ParseError, 18)), ("101/" + three, (ParseError, 0)),
                           (f"{LONGEST} /" + three, (InvalidNumber, LONGEST)), (f"1{LONGEST} /" + three, (ParseError, 0)),
                           ("65537 /" + three, (InvalidNumber, 65537))):
            self.assertEqual(told_points(text), told)
            self.judge(told, read_points, text)

    def test_values_spoilt(self):
        chance = random.Random(256)
        for text in [write_value(value) for value in VALUES]:
            for other in spoilt(text, chance, 10):
                spot = told_spot(other)
                if spot < len(other):
                    self.judge((ParseError, spot), read_value, other)
                else:
                    self.whole_or_lacking(other)
        for text, spot in (("", 0), ("-0", 1), ("-", 1), ("01", 1), ("00", 1), ("1 2", 1), ("none1", 4), ("no", 2), ("nine", 1), ("'", 1),
                           ("'A", 1), ("'abcdefghi", 9), ("'a1", 2), ("(", 1), ("(1", 2), ("(1 ", 3), ("(1,2)", 2), (")", 0), ("())", 2),
                           ("(" * 9, 8), ("(" * 9 + ")" * 9, 8), ("[1]", 0), ("True", 0), ("+1", 0), ("1" * 201, 200), ("-" + "1" * 201, 201),
                           ("(" + "1" * 201 + ")", 201), ("''", 1), ("(())(", 4), ("None", 0), ("\t", 0), ("1\n", 1), ("(()())", 3)):
            self.assertEqual(told_spot(text), spot, text)
            self.judge((ParseError, spot), read_value, text)

    def whole_or_lacking(self, text):
        """The text is that of a told value, or it lacks something at its end."""
        try:
            self.assertEqual(write_value(read_value(text)), text)
        except ParseError as error:
            self.assertEqual(error.spot, len(text))
            self.assertTrue(text.count("(") > text.count(")") or text in ("", "-", "n", "no", "non", "'"), text)

    def test_lengths(self):
        ended = "1 0 0 0" + " " * (MOST - 7)
        self.assertEqual(read_row(ended), (1, 0, 0, 0))
        self.assertIs(caught(self, ParseError, read_row, ended + " ").spot, None)
        self.assertEqual(read_word(3, " " * MOST), ())
        self.assertIs(caught(self, ParseError, read_word, 3, " " * (MOST + 1)).spot, None)
        points = POINTS_TEXTS[0].replace("/", " " * (MOST - len(POINTS_TEXTS[0])) + "/")
        self.assertEqual(read_points(points), (101, CIRCLE[:3]))
        self.assertIs(caught(self, ParseError, read_points, " " + points).spot, None)
        longest = "(" + "1 " * 9998 + "11)"
        self.assertEqual((len(longest), len(read_value(longest)), read_value(longest)[-1]), (MOST, 9999, 11))
        self.assertIs(caught(self, ParseError, read_value, longest[:-1] + "1)").spot, None)
        self.assertEqual(caught(self, ParseError, read_value, longest[:-1] + "1").spot, MOST)
        # Written texts may be longer.
        self.assertEqual(len(write_value((LONGEST,) * 200)), 201 * 200 + 1)

    def test_digits(self):
        for digits in (HUNDRED, LONGEST):
            self.assertEqual(read_row(f"{digits} -{digits} 0 0"), (digits, -digits, 0, 0))
            self.assertEqual(read_value(f"-{digits}"), -digits)
        for text in (f"{LONGEST}0 0 0 0", f"-{LONGEST}0 0 0 0", "1" + "0" * 200 + " 0 0 0"):
            self.assertEqual(caught(self, ParseError, read_row, text).spot, 0)
        self.assertEqual(caught(self, ParseError, read_row, f"0 0 {LONGEST}0 x").spot, 4)
        caught(self, InvalidOperation, write_value, 10 ** 200)
        caught(self, InvalidOperation, write_value, (-10 ** 200,))

    def test_wrong_to_write(self):
        refuses(self, write_row, (FOUR,), 0, InvalidRow, wrong_values() + OBJECTS + ["1 1 1 1", (1, 1, 1), (1,) * 18])
        words = [(("swap", 1, 0),), (("swap", 0, 16),), (("turn", 0, 1, 16),), (("off", 0),), ("swap", 0, 1), (("swap", 0, 1),) * 2001,
                 [("swap", 0, 1)], (["swap", 0, 1],), (("swap", False, 1),), (("turn", 0, 1),)]
        refuses(self, write_word, ((),), 0, InvalidWord, wrong_values() + OBJECTS + words)
        points = (101, CIRCLE)
        refuses(self, write_points, points, 0, InvalidNumber, wrong_values() + OBJECTS + [2, 3, 4, 9, 65537, "101"])
        refuses(self, write_points, points, 1, InvalidPoints,
                wrong_values() + OBJECTS + [CIRCLE[:2], CIRCLE + CIRCLE[:1], list(CIRCLE), ((1, 0, 0), (0, 1, 0), (2, 0, 0)), (101, CIRCLE)])
        values = [True, False, "", "abcdefghi", "A", "a1", "a b", "'a", [], {}, (True,), ((1, False),), ("a", [1]), (1, {}), deep("tuple", (), 8),
                  deep("tuple", 1, 9), 10 ** 200, ((("", ),),)] + OBJECTS + [(OBJECTS[0],)]
        refuses(self, write_value, (None,), 0, InvalidOperation, values)
        self.assertEqual(write_value(deep("tuple", (), 7)), "(" * 8 + ")" * 8)

    def test_wrong_to_read(self):
        texts = [value for value in wrong_values() if not isinstance(value, str)] + OBJECTS + ["1" * (MOST + 1), [1, 1, 1, 1]]
        for call, args in ((read_row, ()), (read_word, (5,)), (read_points, ()), (read_value, ())):
            for wrong in texts:
                self.assertIs(caught(self, ParseError, call, *args, wrong).spot, None)
        refuses(self, read_word, (5, ""), 0, InvalidNumber, wrong_values() + OBJECTS + [2, 17, 0, -3, "5", (5,)])


if __name__ == "__main__":
    unittest.main()
