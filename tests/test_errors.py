"""[0.21]: what the errors derive from, and what they keep."""

import unittest

from pureladders import errors

MESSAGES = (
    "InvalidProduct", "InvalidLot", "InvalidFamily", "InvalidTable", "InvalidLadder", "InvalidDegrees",
    "InvalidRow", "InvalidOperation")
BASES = {
    "LadderError": ValueError, "ParseError": errors.LadderError, "InvalidNumber": IndexError,
    "UnknownName": KeyError, "NothingToUndo": LookupError, "TooMany": OverflowError, "Refused": ArithmeticError}
KEPT = {
    "ParseError": "spot", "InvalidNumber": "given", "UnknownName": "wanted", "NothingToUndo": "steps",
    "TooMany": "most", "Refused": "reason"}


class ErrorsTest(unittest.TestCase):
    def test_direct_bases(self):
        for name in MESSAGES:
            self.assertEqual(getattr(errors, name).__bases__, (errors.LadderError,), name)
        for name, base in BASES.items():
            self.assertEqual(getattr(errors, name).__bases__, (base,), name)

    def test_none_derives_from_another_one(self):
        kinds = [getattr(errors, name) for name in MESSAGES + tuple(BASES)]
        for one in kinds:
            for other in kinds:
                if one is not other and other is not errors.LadderError:
                    self.assertFalse(issubclass(one, other), (one, other))
        for name in ("InvalidNumber", "UnknownName", "NothingToUndo", "TooMany", "Refused"):
            self.assertFalse(issubclass(getattr(errors, name), errors.LadderError), name)

    def test_what_is_kept(self):
        marker = object()
        values = (None, 0, True, -5, 10 ** 99, "text", ("rest",), [1], {"a": []}, marker)
        for name, attribute in KEPT.items():
            for value in values:
                self.assertIs(getattr(getattr(errors, name)(value), attribute), value, name)

    def test_messages(self):
        for name in MESSAGES + ("LadderError",):
            error = getattr(errors, name)("a message")
            self.assertEqual(str(error), "a message")
            self.assertIsInstance(error, ValueError)

    def test_caught_by_their_bases(self):
        for name, base in BASES.items():
            with self.assertRaises(base):
                raise getattr(errors, name)("x")


if __name__ == "__main__":
    unittest.main()
