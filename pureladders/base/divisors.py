"""The elementary divisors of rows of integers.

They are told modulo a determinant of as many rows and columns as the rank: all
elementary divisors divide it, so they are the same modulo it, and no entry
gets longer than it.
"""

from math import gcd

from pureladders.base.elimination import echelon, inverse, width_of


def elementary_divisors(rows):
    """The elementary divisors, each one dividing the next one."""
    table, places = echelon(rows, width_of(rows), 0)
    if not places:
        return ()
    rank = len(places)
    modulus = abs(table[rank - 1][places[-1]])
    rest = [[entry % modulus for entry in row] for row in rows]
    found = []
    while len(found) < rank and modulus > 1:
        divisor, rest = split_off(rest, modulus)
        found.append(divisor)
    return tuple(found) if found else (1,) * rank


def split_off(table, modulus):
    """The least elementary divisor, and the table without its row and column.

    Each turn ends with the divisor, or leaves an entry with a less one.
    """
    while True:
        divisor, at, place = least_entry(table, modulus)
        table = with_clear_column(table, at, place, divisor, modulus)
        if is_clear(table, at, place):
            odd = odd_row(table, divisor)
            if odd is None:
                return divisor, without(table, at, place)
            table[at] = merged(table[at], table[odd], place, divisor)


def least_entry(table, modulus):
    """The least common divisor of the modulus and an entry, and the place of this entry."""
    least = (modulus, 0, 0)
    for at, row in enumerate(table):
        for place, entry in enumerate(row):
            divisor = gcd(entry, modulus)
            if divisor < least[0]:
                least = (divisor, at, place)
        if least[0] == 1:
            return least
    return least


def with_clear_column(table, at, place, divisor, modulus):
    """The table, with rests of the divisor in the column of the place.

    If all of them are 0, columns can be taken off others without a change of
    other rows: then there are rests of the divisor in the row of the place, too.
    """
    scale = inverse(table[at][place], modulus)
    pivot = [entry * scale % modulus for entry in table[at]]
    found = []
    for index, row in enumerate(table):
        share = 0 if index == at else row[place] // divisor
        if share:
            row = [(under - share * over) % modulus for over, under in zip(pivot, row)]
        found.append(row)
    if len([row for row in found if row[place] != 0]) <= 1:
        found[at] = merged(found[at], found[at], place, divisor)
    return found


def merged(pivot, row, place, divisor):
    """The entry of the pivot at its place, and the rests of the entries of the row elsewhere."""
    return [pivot[place] if index == place else entry % divisor for index, entry in enumerate(row)]


def is_clear(table, at, place):
    """Whether the row and the column of the place have zeros elsewhere."""
    others = [row[place] for index, row in enumerate(table) if index != at]
    others = others + [entry for index, entry in enumerate(table[at]) if index != place]
    return not any(others)


def odd_row(table, divisor):
    """The index of a row with an entry that the divisor does not divide; None if there is none."""
    for index, row in enumerate(table):
        if any([entry % divisor for entry in row]):
            return index
    return None


def without(table, at, place):
    """The table without a row and a column."""
    return [row[:place] + row[place + 1:] for index, row in enumerate(table) if index != at]
