"""Elimination in rows of integers, over the fractions or modulo a prime.

Over the fractions all entries stay integers: behind k pivots each entry is a
determinant of k + 1 rows and columns (so the division in `crossed` has no
rest), and the last pivot is one of all rows and columns that have a pivot.
"""

from pureladders.base.integers import greatest_divisor


def width_of(rows):
    """How many columns there are; none if there are no rows."""
    return len(rows[0]) if rows else 0


def echelon(rows, width, prime):
    """The rows behind an elimination in the first `width` columns, and the columns of the pivots.

    The rows with pivots come first; all others have zeros in these columns.
    """
    table = [[entry % prime if prime else entry for entry in row] for row in rows]
    places = []
    divisor = 1
    for place in range(width):
        top = len(places)
        at = pivot_row(table, top, place)
        if at is not None:
            table[top], table[at] = table[at], table[top]
            for index in range(top + 1, len(table)):
                table[index] = crossed(table[top], table[index], place, divisor, prime)
            divisor = table[top][place]
            places.append(place)
    return table, places


def pivot_row(table, top, place):
    """The index of a row from `top` on with an entry other than 0; None if there is none."""
    for index in range(top, len(table)):
        if table[index][place] != 0:
            return index
    return None


def crossed(pivot, row, place, divisor, prime):
    """The row, multiplied by the pivot, less the multiple of the pivot's row that makes the entry 0."""
    high, low = pivot[place], row[place]
    both = [high * under - low * over for over, under in zip(pivot, row)]
    if prime:
        return [entry % prime for entry in both]
    return [entry // divisor for entry in both]


def solution_of(rows, sides, prime):
    """The numbers and the bottom of a solution in lowest terms; None if there is none."""
    width = width_of(rows)
    table, places = echelon([list(row) + [side] for row, side in zip(rows, sides)], width, prime)
    if [row for row in table[len(places):] if row[width] != 0]:
        return None
    bottom = table[len(places) - 1][places[-1]] if places and not prime else 1
    numbers = [0] * width
    for index in reversed(range(len(places))):
        row, place = table[index], places[index]
        rest = bottom * row[width] - dot(row[place + 1:width], numbers[place + 1:])
        numbers[place] = rest * inverse(row[place], prime) % prime if prime else rest // row[place]
    divisor = greatest_divisor([bottom] + numbers)
    if bottom < 0:
        divisor = -divisor
    return tuple([number // divisor for number in numbers]), bottom // divisor


def dot(one, other):
    """The sum of the products of the entries of two rows."""
    return sum([a * b for a, b in zip(one, other)])


def inverse(number, modulus):
    """A number whose product with the first one is their common divisor, modulo the modulus."""
    high, low = modulus, number
    before, here = 0, 1
    while low != 0:
        share = high // low
        high, low = low, high - share * low
        before, here = here, before - share * here
    return before % modulus
