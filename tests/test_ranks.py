"""[1.1] to [1.4]: ranks, elementary divisors, solutions and bars."""

import itertools
import math
import random
import unittest

from pureladders.base import ranks
from pureladders.base.ranks import divisors_of, is_solved, rank_of, solved
from pureladders.errors import InvalidNumber, InvalidOperation
from tests.checked import EDGES, LONG, LONGER, NESTED, NO_FIELDS, SIXTY, CheckedTest

TURNS = ((1, 1, 0), (0, 1, 1), (1, 0, 1))
FIELDS = (0, 2, 3, 5, 13, 97)
NO_ROWS = (
    None, True, 1, LONGER, "", "12", [], [(1,)], {}, {(1,): 1}, EDGES, NESTED, (1, 2), ((1, 2), (3,)), ((1, 2), ()),
    ((1, 2), [3, 4]), ([1, 2], (3, 4)), ((1, True),), ((1, None),), ((1, "1"),), ((LONG,),), ((-LONG,),), (((1,),),),
    ((0,),) * 71, ((0,) * 71,), ((1, 2), None))


def determinant(rows):
    if not rows:
        return 1
    first, rest = rows[0], rows[1:]
    return sum((-1) ** k * first[k] * determinant([row[:k] + row[k + 1:] for row in rest]) for k in range(len(first)))


def determinants_divisor(rows, size):
    """The greatest common divisor of all determinants of so many rows and columns."""
    found = 0
    for chosen in itertools.combinations(rows, size):
        for places in itertools.combinations(range(len(rows[0])), size):
            found = math.gcd(found, determinant([[row[place] for place in places] for row in chosen]))
    return found


def some_rows(seed, count, sides=4):
    chance = random.Random(seed)
    for _ in range(count):
        many, width, most = chance.randint(1, sides), chance.randint(0, sides), chance.choice((1, 2, 6, 40))
        rows = [tuple(chance.choice((0, 1, 2, 3)) * chance.randint(-most, most) for _ in range(width))
                for _ in range(many)]
        if many > 1 and chance.random() < 0.4:
            rows[-1] = tuple(a - 2 * b for a, b in zip(rows[0], rows[-2]))
        yield tuple(rows)


class RanksTest(CheckedTest):
    def test_constants(self):
        self.assertEqual((ranks.MAX_SIDE, ranks.MAX_FIELD), (70, 97))

    def test_examples(self):
        found = [rank_of(TURNS), rank_of(TURNS, 2), divisors_of(TURNS), divisors_of(((2, 0), (0, 3))),
                 divisors_of(((0, 0), (0, 0))), rank_of(())]
        self.assertEqual(found, [3, 2, (1, 1, 2), (1, 6), (), 0])
        found = [solved(((2, 0), (0, 4)), (1, 2)), is_solved(TURNS, (1, 1, 1), ("bar", (1, 1, 1)), prime=2),
                 is_solved(((1, 1),), (3,), ("solution", (6, 0), 2))]
        self.assertEqual(found, [("solution", (1, 1), 2), True, True])
        self.raises(InvalidOperation, rank_of, ((1, 2), (3,)))

    def test_ranks_and_divisors_by_determinants(self):
        for rows in some_rows(3, 400):
            divisors = divisors_of(rows)
            together = 1
            for size in range(1, min(len(rows), len(rows[0])) + 1):
                expected = determinants_divisor(rows, size)
                if size > len(divisors):
                    self.assertEqual(expected, 0, rows)
                else:
                    together *= divisors[size - 1]
                    self.assertEqual(expected, together, rows)
            self.assertTrue(all(b % a == 0 for a, b in zip(divisors, divisors[1:])), rows)
            self.assertTrue(all(a > 0 for a in divisors), rows)
            self.assertEqual(rank_of(rows), len(divisors))
            for prime in FIELDS[1:]:
                self.assertEqual(rank_of(rows, prime), len([a for a in divisors if a % prime]), rows)
            columns = tuple(zip(*rows))
            if columns:
                self.assertEqual(divisors_of(columns), divisors)
                for prime in FIELDS:
                    self.assertEqual(rank_of(columns, prime), rank_of(rows, prime))

    def test_no_rows_and_no_columns(self):
        for rows in ((), ((),), ((),) * 70):
            self.assertEqual(divisors_of(rows), ())
            for prime in FIELDS:
                self.assertEqual(rank_of(rows, prime), 0)
        self.assertEqual(solved((), ()), ("solution", (), 1))
        self.assertEqual(solved((), (), prime=7), ("solution", (), 1))
        self.assertEqual(solved(((), ()), (0, 0)), ("solution", (), 1))
        for prime in FIELDS:
            found = solved(((), ()), (0, 1), prime=prime)
            self.assertEqual(found[0], "bar")
            self.assertIs(is_solved(((), ()), (0, 1), found, prime=prime), True)
        self.assertIs(is_solved((), (), ("solution", (), 5)), True)
        self.assertIs(is_solved((), (), ("bar", ())), False)

    def test_seventy_rows(self):
        chance = random.Random(70)
        rows = [tuple(chance.randint(-9, 9) for _ in range(70)) for _ in range(69)]
        rows.append(tuple(a + b for a, b in zip(rows[0], rows[1])))
        rows = tuple(rows)
        self.assertEqual(rank_of(rows), 69)
        self.assertEqual(len(divisors_of(rows)), 69)
        for prime in (2, 97):
            self.assertLessEqual(rank_of(rows, prime), 69)
        sides = (0,) * 69 + (1,)
        for prime in (0, 2, 97):
            found = solved(rows, sides, prime=prime)
            self.assertEqual(found[0], "bar")
            self.assertIs(is_solved(rows, sides, found, prime=prime), True)
        sides = tuple(sum(row) for row in rows)
        for prime in (0, 2, 97):
            found = solved(rows, sides, prime=prime)
            self.assertEqual(found[0], "solution")
            self.assertIs(is_solved(rows, sides, found, prime=prime), True)
        diagonal = tuple(tuple((k + 1) * int(k == place) for place in range(70)) for k in range(70))
        self.assertEqual(math.prod(divisors_of(diagonal)), math.factorial(70))
        self.assertEqual(divisors_of(diagonal)[-1], math.lcm(*range(1, 71)))

    def test_sixty_digits(self):
        self.assertEqual(divisors_of(((SIXTY, 0), (0, -SIXTY))), (SIXTY, SIXTY))
        self.assertEqual(rank_of(((SIXTY, SIXTY), (SIXTY, SIXTY - 1))), 2)
        found = solved(((SIXTY, 1), (1, SIXTY)), (1, 0))
        self.assertIs(is_solved(((SIXTY, 1), (1, SIXTY)), (1, 0), found), True)

    def test_divisors_of_disguised_diagonals(self):
        chance = random.Random(8)
        for divisors in ((1, 2, 2, 12, 24), (3, 3, 9), (5,), (2, 4, 8, 16, 32, 64), (6, 30, 210)):
            size = len(divisors) + 2
            rows = [[divisors[k] if k == place and k < len(divisors) else 0 for place in range(size)]
                    for k in range(size)]
            for _ in range(60):
                one, other = chance.sample(range(size), 2)
                rows[one] = [a + b for a, b in zip(rows[one], rows[other])]
                one, other = chance.sample(range(size), 2)
                for row in rows:
                    row[one] -= row[other]
            self.assertEqual(divisors_of(tuple(map(tuple, rows))), divisors)

    def test_a_solution_or_a_bar(self):
        chance = random.Random(9)
        for rows in some_rows(5, 300):
            sides = tuple(chance.randint(-4, 4) for _ in rows)
            for prime in FIELDS:
                found = solved(rows, sides, prime=prime)
                wider = tuple(row + (side,) for row, side in zip(rows, sides))
                expected = "solution" if rank_of(rows, prime) == rank_of(wider, prime) else "bar"
                self.assertEqual(found[0], expected)
                self.assertIs(is_solved(rows, sides, found, prime=prime), True)
                if prime:
                    self.assertTrue(all(number in range(prime) for number in found[1]))
                if found[0] == "solution":
                    self.assertEqual(math.gcd(found[2], *found[1]), 1)
                    self.assertTrue(found[2] == 1 if prime else found[2] >= 1)

    def test_never_both(self):
        rows, sides = ((1, 2), (2, 4)), (1, 2)
        for prime in (0, 3):
            for numbers in itertools.product(range(-3, 4), repeat=2):
                self.assertIs(is_solved(rows, sides, ("bar", numbers), prime=prime), False)
                self.assertIs(is_solved(rows, (1, 3), ("solution", numbers, 1), prime=prime), False)

    def test_which_solutions_are_taken(self):
        rows, sides = ((2, 0), (0, 4)), (1, 2)
        for value in (("solution", (1, 1), 2), ("solution", (5, 5), 10), ("solution", (LONGER, LONGER), 2 * LONGER)):
            self.assertIs(is_solved(rows, sides, value), True)
        wrong = (
            ("solution", (-1, -1), -2), ("solution", (0, 0), 0), ("solution", [1, 1], 2), ["solution", (1, 1), 2],
            ("solution", (True, 1), 2), ("solution", (1, 1), 2, 0), ("solution", (1, 1)), ("solution", (1, 1, 0), 2),
            ("solution", (1,), 2), ("solution", (1, 2), 2), ("bar", (1, 1), 2), ("bar", (1, 1)), ("Solution", (1, 1), 2),
            ("solution", (1, 1), "2"), ("solution", "11", 2), ("solution", None, 2), ("solution", (1, None), 2),
            ("solution", (1, 1), None), ("", (1, 1), 2), (), None, True, 2, LONGER, "solution", {}, EDGES, NESTED,
            (EDGES, (1, 1), 2), (("solution",), (1, 1), 2), {"solution": 1}, ([], [], []))
        for value in wrong:
            self.assertIs(is_solved(rows, sides, value), False, value)
        self.assertIs(is_solved(((1,),), (1,), ("solution", (1,), True)), False)
        self.assertIs(is_solved(((1,),), (1,), ("solution", (True,), 1)), False)
        self.assertIs(is_solved(((1,),), (1,), ("solution", (1,), 1)), True)

    def test_which_solutions_are_taken_modulo_a_prime(self):
        rows, sides = ((2, 0), (0, 4)), (1, 2)
        self.assertIs(is_solved(rows, sides, ("solution", (2, 2), 1), prime=3), True)
        for value in (("solution", (5, 2), 1), ("solution", (-1, 2), 1), ("solution", (2, 2), 4),
                      ("solution", (1, 1), 2), ("solution", (3, 2), 1), ("solution", (2, 2), True)):
            self.assertIs(is_solved(rows, sides, value, prime=3), False, value)
        self.assertIs(is_solved(((5,),), (13,), ("solution", (0,), 1), prime=13), True)
        self.assertIs(is_solved(((5,),), (13,), ("solution", (13,), 1), prime=13), False)

    def test_which_bars_are_taken(self):
        rows, sides = ((1, 2), (2, 4)), (1, 3)
        for value in (("bar", (2, -1)), ("bar", (-4, 2)), ("bar", (2 * LONGER, -LONGER))):
            self.assertIs(is_solved(rows, sides, value), True)
        for value in (("bar", (0, 0)), ("bar", (1, 1)), ("bar", [2, -1]), ["bar", (2, -1)], ("bar", (2,)),
                      ("bar", (2, -1, 0)), ("bar", (2, -1), 1), ("bar", (2, None)), ("bar", 2), ("bar",)):
            self.assertIs(is_solved(rows, sides, value), False, value)
        self.assertIs(is_solved(((0,),), (1,), ("bar", (True,))), False)
        self.assertIs(is_solved(rows, sides, ("bar", (2, 4)), prime=5), True)
        for value in (("bar", (2, -1)), ("bar", (7, 4)), ("bar", (2, 9))):
            self.assertIs(is_solved(rows, sides, value, prime=5), False)
        self.assertIs(is_solved(((0,),), (5,), ("bar", (1,)), prime=5), False)

    def test_none_of_these_is_true(self):
        self.assertNotEqual(divisors_of(((2, 0), (0, 3))), (2, 3))
        for prime in FIELDS[1:]:
            self.assertIn(solved(((4,),), (2,), prime=prime)[0], ("solution",))
        self.assertEqual(solved(((4,),), (2,)), ("solution", (1,), 2))
        self.assertLess(rank_of(TURNS, 2), rank_of(TURNS))

    def test_wrong_rows(self):
        for value in NO_ROWS:
            self.raises(InvalidOperation, rank_of, value)
            self.raises(InvalidOperation, rank_of, value, 4)
            self.raises(InvalidOperation, divisors_of, value)
            self.raises(InvalidOperation, solved, value, ())
            self.raises(InvalidOperation, solved, value, None, prime=4)
            self.raises(InvalidOperation, is_solved, value, (), None, prime=4)

    def test_wrong_sides(self):
        wrong = (None, True, 1, "11", (), (1,), (1, 2, 3), [1, 2], {}, {1: 2}, (1, True), (1, None), (1, LONG),
                 ((1,), 2), EDGES)
        for value in wrong:
            for prime in (0, 4):
                self.raises(InvalidOperation, solved, ((1,), (2,)), value, prime=prime)
                self.raises(InvalidOperation, is_solved, ((1,), (2,)), value, None, prime=prime)

    def test_wrong_fields(self):
        for value in NO_FIELDS:
            self.raises(InvalidNumber(value), rank_of, TURNS, value)
            self.raises(InvalidNumber(value), solved, TURNS, (1, 2, 3), prime=value)
            self.raises(InvalidNumber(value), is_solved, TURNS, (1, 2, 3), None, prime=value)
        for prime in (0, 2, 89, 97):
            rank_of(TURNS, prime)

    def test_prime_is_passed_by_keyword_behind_the_star(self):
        with self.assertRaises(TypeError):
            solved(TURNS, (1, 1, 1), 2)
        with self.assertRaises(TypeError):
            is_solved(TURNS, (1, 1, 1), None, 2)


if __name__ == "__main__":
    unittest.main()
