"""What the tests share: wrong values, and a check of the errors that they raise."""

import unittest

from pureladders.errors import InvalidNumber, NothingToUndo, ParseError, Refused, TooMany, UnknownName
from pureladders.lot.lots import Lot

KEPT = {
    ParseError: "spot", InvalidNumber: "given", UnknownName: "wanted",
    NothingToUndo: "steps", TooMany: "most", Refused: "reason",
}

EDGES = Lot(4, ((1, 1, 0, 0), (0, 1, 1, 0), (0, 0, 1, 1)))
SQUARES = Lot(2, ((2, 0), (1, 1), (0, 3)))
RING = Lot(4, ((1, 0, 1, 0), (0, 1, 0, 1)))

LONG = 10 ** 60
LONGER = 10 ** 99
SIXTY = LONG - 1

NESTED = ((((((((1,),),),),),),),)
# None of these is an integer of at most sixty digits.
NO_INTEGERS = (
    None, True, False, "", "1", "x1\t\n", (), (1,), [], [1], {}, {1: 2}, {(0, 0): 1}, NESTED, EDGES,
    LONG, -LONG, LONGER)
# None of these is a product in any number of letters.
NO_PRODUCTS = (
    None, True, 0, 1, LONGER, "", "12", (), (1,) * 9, [], [1, 0], {}, {0: 1}, (1, True), (False, 0), (1, -1), (0, 61),
    (1, LONGER), (1, None), (1, "1"), ((1,), 0), ((1, 0),), ([1], 0), NESTED, EDGES, (EDGES, 0), ({}, 1))


class CheckedTest(unittest.TestCase):
    """A test case that looks at the very class of an error and at what it keeps."""

    def raises(self, error, call, *args, **more):
        """Check that the call raises just this error: a class, or one made with what it keeps."""
        kind = error if isinstance(error, type) else type(error)
        try:
            found = call(*args, **more)
        except Exception as raised:
            self.assertIs(type(raised), kind, (raised, args, more))
            if kind is not error:
                self.assertIs(type(getattr(raised, KEPT[kind])), type(getattr(error, KEPT[kind])), args)
                self.assertEqual(getattr(raised, KEPT[kind]), getattr(error, KEPT[kind]), args)
        else:
            self.fail(f"{kind.__name__} was not raised, but returned: {found!r} {args!r} {more!r}")

    def refuses_numbers(self, call, least, most, *others):
        """Check that the call, with a number and these others, takes no other numbers than the bounds tell."""
        for value in NO_INTEGERS + (least - 1, most + 1):
            self.raises(InvalidNumber(value), call, value, *others)
