"""Ranks and divisors of maps whose rows have few entries other than 0: dicts from places to these entries.

Over the fractions the rows are divided by their common divisors, so that no
entry gets longer than a determinant of the rows.
"""

from math import gcd

from pureladders.base.divisors import elementary_divisors
from pureladders.base.integers import greatest_divisor


def sparse_row(entries, prime):
    """The dict from the places of a row to its entries that are not 0 in the field."""
    numbers = [entry % prime if prime else entry for entry in entries]
    return {place: number for place, number in enumerate(numbers) if number != 0}


def ranks_along(maps, prime):
    """The ranks of maps, each a dict from the places of its rows to the rows.

    Each map, multiplied by the one ahead, has to be 0. So a row whose place is a
    pivot of the next map is a sum of multiples of other rows, and can be left out.
    """
    ranks = [0] * len(maps)
    pivots = {}
    for at in reversed(range(len(maps))):
        rows = maps[at]
        pivots = pivots_of([rows[place] for place in rows if place not in pivots], prime)
        ranks[at] = len(pivots)
    return ranks


def pivots_of(rows, prime):
    """The dict from the places of the pivots to rows that begin there; they are as many as the rank."""
    pivots = {}
    for row in rows:
        rest = rest_of(row, pivots, prime)
        if rest:
            pivots[min(rest)] = rest
    return pivots


def rest_of(row, pivots, prime):
    """The row less multiples of rows with pivots: what is left begins at no pivot, or has no entries."""
    while row and min(row) in pivots:
        row = less_pivot(row, pivots[min(row)], min(row), prime)
    return row


def less_pivot(row, pivot, place, prime):
    """A multiple of the row, less the multiple of the pivot's row that makes the entry at the place 0."""
    divisor = gcd(pivot[place], row[place])
    high, low = pivot[place] // divisor, row[place] // divisor
    both = {at: high * row[at] for at in row}
    for at in pivot:
        both[at] = both.get(at, 0) - low * pivot[at]
    if prime:
        both = {at: both[at] % prime for at in both}
        return {at: both[at] for at in both if both[at] != 0}
    divisor = greatest_divisor(list(both.values()))
    return {at: both[at] // divisor for at in both if both[at] != 0}


def divisors_above_one(rows):
    """The ascending tuple of the elementary divisors above 1, with repeats, over the fractions.

    A row with an entry of 1 or -1 that no other row has an entry beside has the
    divisor 1: what is left of the others has all the divisors above 1.
    """
    pivots = {}
    waiting = list(rows)
    before = len(waiting) + 1
    while len(waiting) < before:
        before = len(waiting)
        waiting = rows_without_units(waiting, pivots)
    places = sorted({place for row in waiting for place in row})
    divisors = elementary_divisors([[row.get(place, 0) for place in places] for row in waiting])
    return tuple([divisor for divisor in divisors if divisor > 1])


def rows_without_units(rows, pivots):
    """Those rows that have entries, but none of 1 or -1, behind eliminations; the others become pivots.

    A pivot has no entries at the places of those ahead of it. So it is enough to
    take them off a row in their sequence, once.
    """
    kept = []
    for row in rows:
        rest = cleared(row, pivots)
        units = [place for place in rest if abs(rest[place]) == 1]
        if units:
            pivots[units[0]] = rest
        elif rest:
            kept.append(rest)
    return kept


def cleared(row, pivots):
    """The row, less multiples of the pivots that make its entries at their places 0."""
    for place in pivots:
        if place in row:
            row = less_multiple(row, pivots[place], row[place] * pivots[place][place])
    return row


def less_multiple(row, pivot, times):
    """The row less so many times the pivot."""
    both = {at: row[at] for at in row}
    for at in pivot:
        both[at] = both.get(at, 0) - times * pivot[at]
    return {at: both[at] for at in both if both[at] != 0}
