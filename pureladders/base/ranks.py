"""Rows of integers over a field: their rank, elementary divisors, solutions and bars."""

from pureladders.base.checks import are_all_passed, is_number, is_within
from pureladders.base.divisors import elementary_divisors
from pureladders.base.elimination import dot, echelon, solution_of, width_of
from pureladders.base.integers import is_prime
from pureladders.errors import InvalidNumber, InvalidOperation

MAX_SIDE = 70
MAX_FIELD = 97


def is_field(value):
    """Whether the value is 0, for the fractions, or a prime to 97."""
    return is_within(value, 0, MAX_FIELD) and (value == 0 or is_prime(value))


def check_field(prime):
    """Refuse all but 0, for the fractions, and the primes to 97."""
    if not is_field(prime):
        raise InvalidNumber(prime)


def check_rows(rows):
    """Refuse all but the tuples of at most 70 equally long rows of integers."""
    if not isinstance(rows, tuple) or len(rows) > MAX_SIDE:
        raise InvalidOperation("no tuple of at most 70 rows")
    for row in rows:
        if not are_all_passed(row) or len(row) > MAX_SIDE or len(row) != len(rows[0]):
            raise InvalidOperation("rows of unlike lengths, or with other entries than integers")


def check_sides(rows, sides):
    """Refuse all but the tuples of one integer for each row."""
    if not are_all_passed(sides) or len(sides) != len(rows):
        raise InvalidOperation("no tuple with an integer for each row")


def columns_of(rows):
    """The list of the columns, each one a list."""
    return [[row[place] for row in rows] for place in range(width_of(rows))]


def rank_of(rows, prime=0):
    """The greatest number of rows of which none is a sum of multiples of the others."""
    check_rows(rows)
    check_field(prime)
    _, places = echelon(rows, width_of(rows), prime)
    return len(places)


def divisors_of(rows):
    """The elementary divisors, as many as the rank, each one dividing the next one."""
    check_rows(rows)
    return elementary_divisors(rows)


def solved(rows, sides, *, prime=0):
    """Any solution, or any bar, as a tuple that begins with this word."""
    check_rows(rows)
    check_sides(rows, sides)
    check_field(prime)
    found = solution_of(rows, sides, prime)
    if found is not None:
        return ("solution", found[0], found[1])
    # A bar solves the columns with the sides 0, and the sides themselves with the side 1.
    columns = columns_of(rows)
    numbers, _ = solution_of(columns + [list(sides)], [0] * len(columns) + [1], prime)
    return ("bar", numbers)


def is_solved(rows, sides, value, *, prime=0):
    """Whether the value is a solution or a bar, in lowest terms or not."""
    check_rows(rows)
    check_sides(rows, sides)
    check_field(prime)
    if not isinstance(value, tuple) or not value or not isinstance(value[0], str):
        return False
    if value[0] == "solution" and len(value) == 3:
        return is_solution(rows, sides, value[1], value[2], prime)
    if value[0] == "bar" and len(value) == 2:
        return is_bar(rows, sides, value[1], prime)
    return False


def is_solution(rows, sides, numbers, bottom, prime):
    """Whether the products of the rows and the numbers are the sides, multiplied by the bottom."""
    if not are_of_field(numbers, width_of(rows), prime) or not is_bottom(bottom, prime):
        return False
    return all([is_zero(dot(row, numbers) - bottom * side, prime) for row, side in zip(rows, sides)])


def is_bar(rows, sides, numbers, prime):
    """Whether the numbers add the rows up to zeros, and the sides to another number."""
    if not are_of_field(numbers, len(rows), prime) or is_zero(dot(sides, numbers), prime):
        return False
    return all([is_zero(dot(column, numbers), prime) for column in columns_of(rows)])


def are_of_field(value, many, prime):
    """Whether the value is a tuple of so many integers, for a prime of so many residues."""
    if not isinstance(value, tuple) or len(value) != many:
        return False
    if prime:
        return all([is_within(number, 0, prime - 1) for number in value])
    return all([is_number(number) for number in value])


def is_bottom(value, prime):
    """Whether the value is an integer above 0, for a prime the integer 1."""
    return is_number(value) and value > 0 and (prime == 0 or value == 1)


def is_zero(number, prime):
    """Whether the integer is 0 in the field."""
    return number % prime == 0 if prime else number == 0
