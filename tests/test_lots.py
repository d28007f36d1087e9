"""[2.2] to [2.5]: lots, their texts and multiples, and what is made of two lots."""

import itertools
import random
import unittest

from pureladders.errors import (
    InvalidLot, InvalidNumber, InvalidOperation, InvalidProduct, ParseError, TooMany)
from pureladders.lot import lots
from pureladders.lot.lots import Lot, multiples
from tests.checked import (
    EDGES, LONGER, NO_INTEGERS, NO_PRODUCTS, RING, SQUARES, CheckedTest)

EMPTY, ALL = Lot(3, ()), Lot(3, ((0, 0, 0),))
NO_LOTS = (None, True, 0, LONGER, "(x1)", (), (1, 0), [], {}, {(0, 0): 1}, ((1, 0),))
# 24 and 25 products of one degree.
MANY = tuple((a, b, 6 - a - b) for a in range(7) for b in range(7 - a))


def divides(one, other):
    return all(a <= b for a, b in zip(one, other))


def has(members, product):
    return any(divides(member, product) for member in members)


def least(products):
    rows = set(products)
    return tuple(sorted(row for row in rows if not any(divides(one, row) and one != row for one in rows)))


def box(letters, most):
    return list(itertools.product(range(most + 1), repeat=letters))


def some_lots(seed, count, letters=3, most=3, members=5):
    chance = random.Random(seed)
    for _ in range(count):
        yield Lot(letters, tuple(
            tuple(chance.randint(0, most) for _ in range(letters)) for _ in range(chance.randint(0, members))))


def some_pairs(seed, count):
    return zip(some_lots(seed, count), some_lots(seed + 1, count))


class LotsTest(CheckedTest):
    def test_constants(self):
        found = (lots.MAX_MEMBER_EXPONENT, lots.MAX_MEMBERS, lots.MAX_PASSED, lots.MAX_POWER, lots.MAX_MULTIPLES)
        self.assertEqual(found, (8, 24, 200, 4, 200))

    def test_examples(self):
        found = [str(EDGES), str(SQUARES), SQUARES.members, SQUARES.degrees, (1, 1, 0, 5) in EDGES,
                 (1, 0, 0, 7) in EDGES, Lot.read("(x2^3, x1 x2, x1^2)", 2) == SQUARES]
        self.assertEqual(found, ["(x3 x4, x2 x3, x1 x2)", "(x2^3, x1 x2, x1^2)", ((0, 3), (1, 1), (2, 0)),
                                 (2, 2, 3), True, False, True])
        found = [str(EDGES.quotient((0, 1, 0, 0))), SQUARES.power(2).members, str(SQUARES.meet(Lot(2, ((1, 0),)))),
                 len(EDGES + RING), len(EDGES * EDGES)]
        self.assertEqual(found, ["(x3, x1)", ((0, 6), (1, 4), (2, 2), (3, 1), (4, 0)), "(x1 x2, x1^2)", 5, 6])
        found = [multiples(SQUARES), str(Lot(3, ())), bool(Lot(3, ())), str(Lot(2, ((1, 1), (0, 0)))),
                 Lot(2, ((1, 1), (0, 0))).is_all, EDGES.is_squarefree]
        expected = [((0, 0), (0, 3), (1, 1), (1, 3), (2, 0), (2, 1), (2, 3)), "()", False, "(1)", True, True]
        self.assertEqual(found, expected)

    def test_least_members(self):
        for seed in range(60):
            chance = random.Random(seed)
            letters = chance.randint(1, 5)
            given = tuple(tuple(chance.randint(0, 4) for _ in range(letters)) for _ in range(chance.randint(0, 12)))
            lot = Lot(letters, given)
            self.assertEqual(lot.members, least(given))
            self.assertEqual(lot.letters, letters)
            self.assertEqual(lot.degrees, tuple(sorted(map(sum, lot.members))))
            self.assertEqual(len(lot), len(least(given)))
            self.assertEqual(list(lot), list(lot.members))
            self.assertIs(lot.is_squarefree, all(max(member) <= 1 for member in lot.members))
            for product in box(letters, 3):
                self.assertIs(product in lot, has(given, product))

    def test_empty_and_all(self):
        self.assertEqual([EMPTY.members, EMPTY.degrees, len(EMPTY), bool(EMPTY), list(EMPTY), str(EMPTY)],
                         [(), (), 0, False, [], "()"])
        self.assertEqual([EMPTY.is_all, EMPTY.is_squarefree, (0, 0, 0) in EMPTY], [False, True, False])
        self.assertEqual([ALL.members, ALL.degrees, len(ALL), bool(ALL), list(ALL), str(ALL)],
                         [((0, 0, 0),), (0,), 1, True, [(0, 0, 0)], "(1)"])
        self.assertEqual([ALL.is_all, ALL.is_squarefree, (0, 0, 0) in ALL, (60, 0, 60) in ALL], [True] * 4)
        self.assertIs(SQUARES.is_all, False)
        self.assertIs(SQUARES.is_squarefree, False)

    def test_equality(self):
        self.assertTrue(Lot(2, ((2, 0), (1, 1), (2, 1))) == Lot(2, ((1, 1), (2, 0))))
        self.assertFalse(Lot(2, ((2, 0),)) != Lot(2, ((2, 0), (2, 0))))
        self.assertTrue(Lot(2, ()) != Lot(3, ()))
        self.assertFalse(Lot(2, ()) == Lot(3, ()))
        self.assertTrue(Lot(2, ((1, 0),)) != Lot(2, ((0, 1),)))
        for value in NO_LOTS:
            self.assertIs(SQUARES == value, False)
            self.assertIs(value == SQUARES, False)
            self.assertIs(SQUARES != value, True)

    def test_in_takes_every_value(self):
        for value in NO_PRODUCTS + ((1, 1, 1), (61, 60), (LONGER, LONGER), (True, 1), (1, True), (-1, 9)):
            self.assertIs(value in SQUARES, False)
            self.assertIs(value not in SQUARES, True)
        self.assertIs((60, 60) in SQUARES, True)
        self.assertIs(ALL in ALL, False)

    def test_never_changes(self):
        for name in ("letters", "members", "degrees", "is_all", "is_squarefree"):
            with self.assertRaises(AttributeError):
                setattr(SQUARES, name, None)
        self.assertEqual(str(SQUARES), "(x2^3, x1 x2, x1^2)")

    def test_how_many_members(self):
        self.assertEqual(len(MANY), 28)
        self.assertEqual(len(Lot(3, MANY[:24])), 24)
        self.raises(TooMany(24), Lot, 3, MANY[:25])
        self.assertEqual(len(Lot(3, MANY + ((0, 0, 0),))), 1)
        self.assertEqual(Lot(1, ((3,),) * 200).members, ((3,),))
        self.raises(InvalidLot, Lot, 1, ((3,),) * 201)
        self.raises(InvalidLot, Lot, 3, MANY + ((9, 0, 0),))
        self.assertEqual(Lot(2, ((8, 8),)).members, ((8, 8),))
        self.raises(InvalidLot, Lot, 2, ((8, 9),))

    def test_wrong_lots(self):
        self.refuses_numbers(Lot, 1, 8, ())
        self.raises(InvalidNumber(9), Lot, 9, None)
        for value in NO_PRODUCTS + ((1,), (1, 0, 0), (9, 0)):
            self.raises(InvalidLot, Lot, 2, (value,))
            self.raises(InvalidLot, Lot, 2, ((1, 1), value))
        for value in (None, True, 3, LONGER, "", "12", [], [(1, 0)], {}, {(1, 0): 1}, EDGES, (1, 0), (None,)):
            self.raises(InvalidLot, Lot, 2, value)

    def test_texts(self):
        self.assertEqual(str(Lot(3, ((0, 2, 1), (1, 0, 0), (0, 8, 0)))), "(x2^2 x3, x2^8, x1)")
        self.assertEqual(str(Lot(8, ((1,) * 8,))), "(x1 x2 x3 x4 x5 x6 x7 x8)")
        self.assertEqual(str(Lot(1, ((8,),)).power(4)), "(x1^32)")

    def test_read(self):
        for lot in list(some_lots(5, 40)) + [EMPTY, ALL, EDGES, Lot(8, ((1,) * 8,)), Lot(3, MANY[:24])]:
            self.assertTrue(Lot.read(str(lot), lot.letters) == lot)
        great = Lot(1, ((8,),)).power(4) * Lot(1, ((7,),)).power(4)
        self.assertEqual(str(great), "(x1^60)")
        self.assertTrue(Lot.read("(x1^60)", 1) == great)
        self.assertEqual(Lot.read("(x2^9, x1^10)", 2).members, ((0, 9), (10, 0)))
        self.assertEqual(Lot.read("()", 8).letters, 8)

    def test_texts_near_a_text(self):
        near = (
            "", "(", ")", "1", "x1", "( )", "(1", "1)", "(1,)", "(1, 1)", "(x1, 1)", "(0)", "(x0)", "(x3)", "(x9)",
            "(x10)", "(X1)", "(y1)", "(x)", "(x1,x2)", "(x2,x1)", "(x2 ,x1)", "(x2,  x1)", "(x2, x1 )", "( x2, x1)",
            "(x2, x1) ", " (x2, x1)", "(x2, x1)\n", "(x2, x1", "x2, x1", "((x2, x1))", "(x1, x2)", "(x2 x1)",
            "(x1  x2)", "(x1*x2)", "(x1x2)", "(x1\tx2)", "(x1 x1)", "(x1^1)", "(x1^0)", "(x1^02)", "(x1^)",
            "(x1^2^2)", "(x1^+2)", "(x1^-2)", "(x1^ 2)", "(x1 ^2)", "(x1^2.0)", "(x1^61)", "(x1^100)", "(x^2)",
            "(x1^" + "9" * 3000 + ")", "(x1^True)", "(x1^x2)", "(x2, x2, x1)", "(x1, x1^2)", "(x1^2, x1)", "(x01)",
            "(x2^2, x1 x2^2)", "()()", "(,)", "(, )", "[x2, x1]", "lot 2", "(x1 1)", "(1 x1)", "(1^2)", "(x1, )",
            "(, x1)")
        for text in near:
            self.raises(ParseError(0), Lot.read, text, 2)
        self.raises(ParseError(0), Lot.read, str(EDGES), 3)
        words = ", ".join(f"x1^{a} x2^{26 - a}" for a in range(2, 25))
        self.assertEqual(len(Lot.read(f"({words})", 2)), 23)
        self.raises(ParseError(0), Lot.read, f"(x2^30, x1 x2^29, {words})", 2)

    def test_wrong_texts(self):
        for value in (None, True, 1, LONGER, (), ("(x1)",), [], {}, EDGES):
            self.raises(ParseError(None), Lot.read, value, 2)
            self.raises(ParseError(None), Lot.read, value, 9)
        for value in NO_INTEGERS + (0, 9):
            self.raises(InvalidNumber(value), Lot.read, "(x1)", value)
            self.raises(InvalidNumber(value), Lot.read, "no lot", value)

    def test_multiples(self):
        for lot in list(some_lots(11, 30)) + [EMPTY, ALL, RING]:
            found = {(0,) * lot.letters}
            for size in range(1, len(lot) + 1):
                for chosen in itertools.combinations(lot.members, size):
                    found.add(tuple(map(max, *chosen)) if size > 1 else chosen[0])
            self.assertEqual(multiples(lot), tuple(sorted(found)))

    def test_how_many_multiples(self):
        self.assertEqual(len(multiples(Lot(7, tuple(tuple(int(i == k) for i in range(7)) for k in range(7))))), 128)
        # A stair of k steps has 1 + k + k (k - 1) / 2 multiples: 191 for 19 steps, 211 for 20.
        stair = Lot.read("(" + ", ".join(words(19)) + ")", 2)
        self.assertEqual(len(multiples(stair)), 191)
        # Lots in letters of their own, with 10, 5, 2 and 2 multiples.
        ten = Lot(8, tuple(row + (0,) * 5 for row in ((1, 3, 3), (2, 0, 3), (3, 1, 1), (3, 2, 0))))
        five = Lot(8, tuple((0,) * 3 + row + (0, 0) for row in ((1, 1, 0), (1, 0, 1), (0, 1, 1))))
        two = Lot(8, ((0,) * 7 + (1,), (0,) * 6 + (1, 0)))
        self.assertEqual([len(multiples(lot)) for lot in (ten, five, two)], [10, 5, 4])
        self.assertEqual(len(multiples(ten + five + two)), 200)
        self.raises(TooMany(200), multiples, Lot.read("(" + ", ".join(words(20)) + ")", 2))
        self.raises(TooMany(200), multiples, Lot(8, tuple(tuple(int(i == k) for i in range(8)) for k in range(8))))
        for value in NO_LOTS:
            self.raises(InvalidLot, multiples, value)

    def test_sums_meets_products_and_quotients(self):
        inner = box(3, 6)
        for one, other in some_pairs(31, 12):
            both = {tuple(map(sum, zip(a, b))) for a in one for b in other}
            total, meet, times = one + other, one.meet(other), one * other
            for product in inner:
                self.assertIs(product in total, product in one or product in other)
                self.assertIs(product in meet, product in one and product in other)
                self.assertIs(product in times, has(both, product))
            for product in box(3, 2):
                quotient = one.quotient(product)
                for left in box(3, 3):
                    self.assertIs(left in quotient, tuple(map(sum, zip(left, product))) in one)

    def test_laws(self):
        thirds = list(some_lots(43, 12, members=3))
        for (one, other), third in zip(some_pairs(41, 12), thirds):
            self.assertTrue(one + other == other + one and one * other == other * one)
            self.assertTrue(one.meet(other) == other.meet(one))
            self.assertTrue((one + other) + third == one + (other + third))
            self.assertTrue(one.meet(other).meet(third) == one.meet(other.meet(third)))
            self.assertTrue(one * (other + third) == one * other + one * third)
            self.assertTrue(one.meet(other + third) == one.meet(other) + one.meet(third))
            self.assertTrue((one * other) + one.meet(other) == one.meet(other))
            for u, v in (((1, 0, 2), (0, 1, 1)), ((2, 2, 0), (0, 0, 0))):
                both = tuple(map(sum, zip(u, v)))
                self.assertTrue(one.quotient(u).quotient(v) == one.quotient(both))
                self.assertIs(one.quotient(both).is_all, both in one)
                self.assertTrue((one + other).quotient(u) == one.quotient(u) + other.quotient(u))
                self.assertTrue(one.meet(other).quotient(u) == one.quotient(u).meet(other.quotient(u)))

    def test_quotients_by_great_products(self):
        self.assertTrue(SQUARES.quotient((60, 60)).is_all)
        self.assertTrue(EMPTY.quotient((60, 0, 0)) == EMPTY)
        for value in NO_PRODUCTS + ((1,), (1, 0, 0)):
            self.raises(InvalidProduct, SQUARES.quotient, value)

    def test_powers(self):
        for lot in some_lots(51, 15, members=3):
            self.assertEqual(lot.power(0).members, ((0, 0, 0),))
            self.assertTrue(lot.power(1) == lot and lot.power(2) == lot * lot)
            self.assertTrue(lot.power(3) == lot * lot * lot and lot.power(4) == lot * (lot * lot * lot))
        self.assertTrue(EMPTY.power(0) == ALL)
        self.assertTrue(EMPTY.power(3) == EMPTY)
        self.assertTrue(ALL.power(4) == ALL)
        self.refuses_numbers(SQUARES.power, 0, 4)

    def test_powers_by_all_choices(self):
        for lot in some_lots(61, 15, members=4, most=2):
            for many in range(1, 5):
                chosen = itertools.combinations_with_replacement(lot.members, many)
                expected = least([tuple(map(sum, zip(*rows))) for rows in chosen])
                if len(expected) > 24:
                    self.raises(TooMany(24), lot.power, many)
                else:
                    self.assertEqual(lot.power(many).members, expected)

    def test_how_many_members_come_of_two(self):
        one, other = Lot(3, MANY[:14]), Lot(3, MANY[14:28])
        self.raises(TooMany(24), lambda: one + other)
        self.assertEqual(len(Lot(3, MANY[:12]) + Lot(3, MANY[12:24])), 24)
        self.raises(TooMany(24), lambda: one * other)
        left = Lot(8, tuple(tuple(int(i == k) for i in range(8)) for k in range(5)))
        right = Lot(8, tuple(tuple(int(i == k) for i in range(8)) for k in (5, 6, 7)))
        self.assertEqual(len(left.meet(right)), 15)
        self.assertEqual(len(left * right), 15)
        four = Lot(8, tuple(tuple(2 * int(i == k) + int(i == k + 1) for i in range(8)) for k in range(4)))
        seven = Lot(8, tuple(tuple(int(i == 7 - k) for i in range(8)) for k in range(3)) + tuple(
            tuple(3 * int(i == k) for i in range(8)) for k in range(4)))
        self.raises(TooMany(24), four.meet, seven)
        self.raises(TooMany(24), left.power, 4)

    def test_exponents_above_the_bound(self):
        line = Lot(1, ((8,),)).power(4)
        self.assertEqual(line.members, ((32,),))
        self.raises(TooMany(60), lambda: line * line)
        self.raises(TooMany(60), line.power, 2)
        self.assertEqual((line * Lot(1, ((7,),)).power(4)).members, ((60,),))
        self.raises(TooMany(60), lambda: line * Lot(1, ((8,),)).power(3) * Lot(1, ((5,),)))
        # The product with the great exponent is not least: no error.
        one = Lot.read("(x3^2, x2^2, x1^40 x2 x3)", 3)
        expected = ((0, 0, 4), (0, 2, 2), (0, 4, 0), (40, 1, 3), (40, 3, 1))
        self.assertEqual((one * one).members, expected)
        self.assertEqual(one.power(2).members, expected)

    def test_sixty_comes_ahead_of_twenty_four(self):
        row = Lot.read("(" + ", ".join(words(23)) + ")", 2)
        self.assertEqual((len(row), max(map(max, row.members))), (23, 23))
        self.raises(TooMany(60), row.power, 3)
        self.raises(TooMany(24), row.power, 2)
        great = Lot.read("(x2^31, x1 x2^30, x1^5 x2^20, x1^11 x2^7, x1^31)", 2)
        self.raises(TooMany(60), lambda: great * great)
        self.raises(TooMany(60), great.power, 4)

    def test_operands_of_another_kind(self):
        for value in NO_LOTS:
            for call in (lambda: SQUARES + value, lambda: value + SQUARES, lambda: SQUARES * value,
                         lambda: value * SQUARES):
                self.raises(TypeError, call)
            self.raises(InvalidLot, SQUARES.meet, value)
        for other in (EDGES, Lot(1, ()), Lot(3, ())):
            self.raises(InvalidOperation, lambda: SQUARES + other)
            self.raises(InvalidOperation, lambda: SQUARES * other)
            self.raises(InvalidLot, SQUARES.meet, other)
        self.raises(TypeError, lambda: SQUARES < SQUARES)
        self.raises(TypeError, lambda: SQUARES - SQUARES)

    def test_none_of_these_is_true(self):
        line = Lot(2, ((1, 0),))
        self.assertFalse(line * line == line.meet(line))
        self.assertNotEqual(len(SQUARES + line), len(SQUARES) + len(line))
        self.assertNotEqual(len(SQUARES.power(2)), 6)
        self.assertEqual(len(RING.quotient((60, 0, 0, 0))), len(RING))
        self.assertEqual(multiples(EMPTY), multiples(ALL))

    def test_nothing_is_shared(self):
        rows = [(2, 0), (1, 1)]
        lot = Lot(2, tuple(rows))
        rows.append((0, 1))
        list(lot).append((0, 1))
        self.assertEqual(lot.members, ((1, 1), (2, 0)))
        self.assertEqual(list(lot), list(lot))


def words(steps):
    """The members of a stair of so many steps in two letters."""
    return [word for word in (
        " ".join(part for part in (power("x1", at), power("x2", steps - at)) if part) for at in range(1, steps + 1))]


def power(name, exponent):
    return "" if exponent == 0 else name if exponent == 1 else f"{name}^{exponent}"


if __name__ == "__main__":
    unittest.main()
