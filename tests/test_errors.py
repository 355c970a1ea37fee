import unittest

from timesthrough import errors

TOLD = ("InvalidRow", "InvalidWord", "InvalidMap", "InvalidTable", "InvalidPoints", "InvalidForm",
        "InvalidLot", "InvalidName", "InvalidWeights", "InvalidOperation")
KEPT = (("ParseError", "spot", errors.ThroughError), ("InvalidNumber", "given", IndexError),
        ("UnknownName", "asked", KeyError), ("NothingToUndo", "many", LookupError),
        ("TooMany", "limit", OverflowError), ("Refused", "reason", ArithmeticError))
VALUES = (None, True, 0, -5, 10 ** 210, "", "text", (), ("edit", 0, "many"), [1, 2], {1: 2})


class Errors(unittest.TestCase):

    def test_bases(self):
        self.assertEqual(errors.ThroughError.__bases__, (ValueError,))
        for name in TOLD:
            self.assertEqual(getattr(errors, name).__bases__, (errors.ThroughError,), name)
        for name, _, base in KEPT:
            self.assertEqual(getattr(errors, name).__bases__, (base,), name)

    def test_not_from_one_another(self):
        names = TOLD + tuple(name for name, _, _ in KEPT)
        for one in names:
            for other in names:
                if one != other:
                    self.assertFalse(issubclass(getattr(errors, one), getattr(errors, other)))

    def test_kept(self):
        for name, attribute, _ in KEPT:
            for value in VALUES:
                raised = getattr(errors, name)(value)
                self.assertEqual(getattr(raised, attribute), value)
                self.assertIs(getattr(raised, attribute), value)
                self.assertEqual(raised.args, (value,))

    def test_message_or_one_value(self):
        for name in TOLD + ("ThroughError",):
            for value in VALUES:
                raised = getattr(errors, name)(value)
                self.assertEqual(raised.args, (value,))
                self.assertEqual(str(raised), str(value))
                self.assertIs(raised.told, value)
        self.assertEqual(errors.ParseError(5).told, 5)

    def test_caught_by_base(self):
        with self.assertRaises(ValueError):
            raise errors.InvalidRow("no row")
        with self.assertRaises(errors.ThroughError):
            raise errors.ParseError(3)
        with self.assertRaises(IndexError):
            raise errors.InvalidNumber(3)
        self.assertFalse(issubclass(errors.InvalidNumber, ValueError))


if __name__ == "__main__":
    unittest.main()
