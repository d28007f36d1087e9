"""What a table tells of a lot: its numerator, codimension, weight, regularity and depth."""

from math import factorial

from pureladders.base.ranks import check_field
from pureladders.base.ratios import lowest_pair
from pureladders.errors import InvalidOperation, Refused
from pureladders.lot.lots import check_lot
from pureladders.part.parts import table_of
from pureladders.pure.chains import is_stuck
from pureladders.table.tables import check_table


def table_numerator(table):
    """The dict from the degrees at which the numerator is not 0, ascending, to the fractions there."""
    check_table(table)
    sums = signed_sums(table)
    return {degree: lowest_pair(sums[degree], table.bottom) for degree in sorted(sums) if sums[degree] != 0}


def signed_sums(table):
    """The dict from degrees to the sums of the integers of the table, those at odd steps subtracted."""
    entries = table.entries
    sums = {}
    for step, degree in entries:
        sign = -1 if step % 2 else 1
        sums[degree] = sums.get(degree, 0) + sign * entries[step, degree]
    return sums


def codimension(table):
    """How many factors 1 - t the numerator has."""
    check_table(table)
    return factors_and_rest(table)[0]


def weight_of(table):
    """The value at t = 1 of the numerator without its factors 1 - t."""
    check_table(table)
    return lowest_pair(factors_and_rest(table)[1], table.bottom)


def factors_and_rest(table):
    """How many factors 1 - t the numerator has, and the value of the rest at 1, multiplied by the bottom."""
    sums = signed_sums(table)
    if not any(list(sums.values())):
        raise Refused(("numerator",))
    row = [sums.get(degree, 0) for degree in range(max(sums) + 1)]
    factors = 0
    while sum(row) == 0:
        row = sums_up_to(row)
        factors += 1
    return factors, sum(row)


def sums_up_to(row):
    """The polynomial divided by 1 - t: its coefficients are the sums of those up to each degree."""
    found = []
    total = 0
    for number in row:
        total += number
        found.append(total)
    return found


def regularity(table):
    """The greatest degree less step of all places with a fraction; None if there are none."""
    check_table(table)
    return max([degree - step for step, degree in table.entries], default=None)


def ends(table):
    """The least and the greatest degrees of all steps up to the last one, with None for steps without fractions."""
    check_table(table)
    columns = [degrees_at(table, step) for step in range(table.end + 1)]
    lowest = tuple([min(column, default=None) for column in columns])
    return lowest, tuple([max(column, default=None) for column in columns])


def degrees_at(table, step):
    """The list of the degrees at which the step has fractions."""
    return [degree for at, degree in table.entries if at == step]


def weight_bounds(table):
    """The least and the greatest weight that a table of a chain with such ends can have."""
    check_table(table)
    if degrees_at(table, 0) != [0] or table.at(0, 0)[0] < 0:
        raise InvalidOperation("not just a number above 0 at the place (0, 0)")
    if is_stuck(table):
        raise Refused(("stuck",))
    factors = codimension(table)
    lowest, greatest = ends(table)
    upper = bound_of_weight(table, greatest[1:factors + 1])
    if factors != table.end:
        return None, upper
    return bound_of_weight(table, lowest[1:]), upper


def bound_of_weight(table, degrees):
    """The number at (0, 0), multiplied by the degrees, divided by the product of the integers to their number."""
    top, bottom = table.at(0, 0)
    for degree in degrees:
        top = top * degree
    return lowest_pair(top, bottom * factorial(len(degrees)))


def depth_of(lot, prime=0):
    """The number of letters less the last step of the table of the lot over the field."""
    check_lot(lot)
    check_field(prime)
    if lot.is_all:
        raise InvalidOperation("the lot of all products")
    return lot.letters - table_of(lot, prime).end
