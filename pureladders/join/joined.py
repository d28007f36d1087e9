"""Lots side by side and apart, products of tables, cut letters, and cones of a lot and a product."""

from pureladders.base.checks import check_within
from pureladders.base.ranks import check_field
from pureladders.errors import InvalidOperation, InvalidProduct, Refused, TooMany
from pureladders.lot.exponents import are_exponents, nothing
from pureladders.lot.lots import MAX_MEMBER_EXPONENT, check_lot, limited_members, made_lot
from pureladders.part.parts import table_of
from pureladders.table.shifts import shared_numbers
from pureladders.table.tables import MAX_PLACE, MAX_STEP, check_table, made_table

MAX_JOINED = 8


def check_two_lots(one, other):
    """Refuse all but two lots, and then those with more than eight letters together."""
    check_lot(one)
    check_lot(other)
    if one.letters + other.letters > MAX_JOINED:
        raise TooMany(MAX_JOINED)


def side_by_side(one, other):
    """The lot in the letters of both of the products that have a member of one of both."""
    check_two_lots(one, other)
    members = [member + nothing(other.letters) for member in one.members]
    members = members + [nothing(one.letters) + member for member in other.members]
    return made_lot(one.letters + other.letters, limited_members(members))


def meet_apart(one, other):
    """The lot in the letters of both of the products that have a member of each of both."""
    check_two_lots(one, other)
    members = [first + last for first in one.members for last in other.members]
    return made_lot(one.letters + other.letters, limited_members(members))


def table_product(one, other):
    """The table with the sums of products of the numbers whose steps and degrees add up."""
    check_table(one)
    check_table(other)
    return made_table(products_of_entries(one.entries, other.entries, 0), one.bottom * other.bottom)


def table_apart(one, other):
    """The table of the meet of two lots apart, told by their tables."""
    check_table(one)
    check_table(other)
    entries = products_of_entries(behind_start(one), behind_start(other), 1)
    entries[0, 0] = one.bottom * other.bottom
    return made_table(entries, one.bottom * other.bottom)


def behind_start(table):
    """The entries of the table at the steps from 1 on."""
    entries = table.entries
    return {place: entries[place] for place in entries if place[0] > 0}


def products_of_entries(one, other, less):
    """The dict from places to the sums of products of entries, so many steps less than the steps add up to."""
    check_reach(one, other, less)
    found = {}
    for step, degree in one:
        for higher, further in other:
            place = (step + higher - less, degree + further)
            found[place] = found.get(place, 0) + one[step, degree] * other[higher, further]
    return found


def check_reach(one, other, less):
    """Refuse entries whose products reach beyond the places of tables.

    They are coefficients of polynomials in two letters: so the greatest step
    and the greatest degree of the product are the sums of the greatest ones.
    """
    if not one or not other:
        return
    if max([step for step, _ in one]) + max([step for step, _ in other]) - less > MAX_STEP:
        raise TooMany(MAX_STEP)
    if max([degree for _, degree in one]) + max([degree for _, degree in other]) > MAX_PLACE:
        raise TooMany(MAX_PLACE)


def cut_at(lot, letter, *, one=False):
    """The lot without a letter, which is set to 0, or to 1."""
    check_lot(lot)
    check_within(letter, 0, lot.letters - 1)
    if one is not True and one is not False:
        raise InvalidOperation("neither True nor False")
    if lot.letters == 1:
        raise Refused(("letters",))
    kept = [member for member in lot.members if one or member[letter] == 0]
    return made_lot(lot.letters - 1, limited_members([member[:letter] + member[letter + 1:] for member in kept]))


def check_cone(lot, product, prime):
    """Refuse all but lots, products with exponents to 8, and fields."""
    check_lot(lot)
    if not are_exponents(product, lot.letters, MAX_MEMBER_EXPONENT):
        raise InvalidProduct("no product in as many letters with exponents to 8")
    check_field(prime)


def cone(lot, product, prime=0):
    """The tables of the lot, of its quotient by the product, and of the lot with the product."""
    check_cone(lot, product, prime)
    with_product = made_lot(lot.letters, limited_members(lot.members + (product,)))
    return table_of(lot, prime), table_of(lot.quotient(product), prime), table_of(with_product, prime)


def cone_neighbours(lot, product, prime=0):
    """The dict from places to the numbers that the first two tables of the cone have more there and a step higher."""
    first, second, third = cone(lot, product, prime)
    numbers = first.entries
    moved, less = second.entries, third.entries
    for step, degree in moved:
        place = (step + 1, degree + sum(product))
        numbers[place] = numbers.get(place, 0) + moved[step, degree]
    for place in less:
        numbers[place] = numbers.get(place, 0) - less[place]
    return shared_numbers(numbers)
