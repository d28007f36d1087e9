"""What the tests share: wrong values, and a check of the errors that they raise."""

import unittest

from pureladders.errors import InvalidNumber, NothingToUndo, ParseError, Refused, TooMany, UnknownName
from pureladders.lot.lots import Lot

KEPT = {
    ParseError: "spot", InvalidNumber: "given", UnknownName: "wanted",
    NothingToUndo: "steps", TooMany: "most", Refused: "reason",
}

EDGES = Lot(4, ((1, 1, 0, 0), (0, 1, 1, 0), (0, 0, 1, 1)))
SQUARES = Lot(2, ((2, 0), (1, 1), (0, 3)))
RING = Lot(4, ((1, 0, 1, 0), (0, 1, 0, 1)))

LONG = 10 ** 60
LONGER = 10 ** 99
SIXTY = LONG - 1

NESTED = ((((((((1,),),),),),),),)
# None of these is an integer of at most sixty digits.
NO_INTEGERS = (
    None, True, False, "", "1", "x1\t\n", (), (1,), [], [1], {}, {1: 2}, {(0, 0): 1}, NESTED, EDGES,
    LONG, -LONG, LONGER)
# None of these is a product in any number of letters.
NO_PRODUCTS = (
    None, True, 0, 1, LONGER, "", "12", (), (1,) * 9, [], [1, 0], {}, {0: 1}, (1, True), (False, 0), (1, -1), (0, 61),
    (1, LONGER), (1, None), (1, "1"), ((1,), 0), ((1, 0),), ([1], 0), NESTED, EDGES, (EDGES, 0), ({}, 1))
# None of these is an object of the package.
NO_OBJECTS = (None, True, False, 0, 1, LONGER, "", "(x1)", (), (1, 0), [], [1], {}, {(0, 0): 1}, NESTED)
NO_LOTS = NO_OBJECTS
NO_FIELDS = NO_INTEGERS + (-1, 1, 4, 49, 91, 98, 101, -2)
FIELDS = (0, 2, 3, 97)


class CheckedTest(unittest.TestCase):
    """A test case that looks at the very class of an error and at what it keeps."""

    def raises(self, error, call, *args, **more):
        """Check that the call raises just this error: a class, or one made with what it keeps."""
        kind = error if isinstance(error, type) else type(error)
        try:
            found = call(*args, **more)
        except Exception as raised:
            self.assertIs(type(raised), kind, (raised, args, more))
            if kind is not error:
                self.assertIs(type(getattr(raised, KEPT[kind])), type(getattr(error, KEPT[kind])), args)
                self.assertEqual(getattr(raised, KEPT[kind]), getattr(error, KEPT[kind]), args)
        else:
            self.fail(f"{kind.__name__} was not raised, but returned: {found!r} {args!r} {more!r}")

    def refuses_numbers(self, call, least, most, *others):
        """Check that the call, with a number and these others, takes no other numbers than the bounds tell."""
        for value in NO_INTEGERS + (least - 1, most + 1):
            self.raises(InvalidNumber(value), call, value, *others)

    def refuses(self, call, good, wrongs, thens=()):
        """Check which errors a call raises whose arguments are wrong, one of them or several at once.

        `good` are right arguments. Each of `wrongs` is a list of pairs of a wrong value and its error, one list
        for each argument that is checked, in the order of the checks: (position, pairs). Each of `thens` is a
        pair of arguments and of the error that they raise if no other error applies.
        """
        call(*good)
        for at, (place, pairs) in enumerate(wrongs):
            for value, error in pairs:
                args = replaced(good, place, value)
                self.raises(error, call, *args)
                for later, others in wrongs[at + 1:]:
                    self.raises(error, call, *replaced(args, later, others[0][0]))
                    self.raises(error, call, *replaced(args, later, others[-1][0]))
        for args, error in thens:
            self.raises(error, call, *args)
            for place, pairs in wrongs:
                for value, other in pairs:
                    self.raises(other, call, *replaced(args, place, value))


def replaced(args, place, value):
    """The arguments with another one at the place."""
    return args[:place] + (value,) + args[place + 1:]


def each(error, values):
    """The pairs of the values with one error, a class."""
    return [(value, error) for value in values]


def each_number(values):
    """The pairs of the values with the error that keeps a number."""
    return [(value, InvalidNumber(value)) for value in values]
