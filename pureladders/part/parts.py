"""Parts of lots: the sets of letters that can be taken off a product."""

from pureladders.base.ranks import check_field
from pureladders.errors import TooMany
from pureladders.family.holes import hole_places, holes_of
from pureladders.family.sets import all_within
from pureladders.lot.exponents import fits, nothing
from pureladders.lot.lots import check_lot
from pureladders.lot.members import common_multiples
from pureladders.lot.products import check_product
from pureladders.table.tables import table_of_counts

MAX_WORK = 8000


def part(lot, product):
    """The ascending tuple of the sets of letters that can be taken off the product."""
    check_lot(lot)
    check_product(product, lot.letters)
    return tuple(sorted(part_sets(lot.members, product)))


def part_sets(members, product):
    """The sets of letters that can be taken off so that a member still divides what is left over."""
    dividing = [member for member in members if fits(member, product)]
    return all_within([above_letters(member, product) for member in dividing])


def above_letters(member, product):
    """The letters with a greater exponent in the product, ascending."""
    return tuple([at for at, exponent in enumerate(product) if exponent > member[at]])


def part_holes(lot, product, prime):
    """The numbers of holes of the part, from dimension -1 on to its own dimension."""
    check_lot(lot)
    check_product(product, lot.letters)
    check_field(prime)
    return holes_of(part_sets(lot.members, product), prime)


def fine_table(lot, prime):
    """The dict from the pairs (step, product) with a number other than 0 to this number."""
    check_lot(lot)
    check_field(prime)
    return fine_numbers(lot, prime)


def worked_multiples(lot):
    """The ascending list of the multiples of the lot; None if they are too much work.

    A multiple takes as much work as there are sets of letters.
    """
    return common_multiples(lot.members, lot.letters, MAX_WORK >> lot.letters)


def has_table(lot):
    """Whether the table of the lot is not refused."""
    return worked_multiples(lot) is not None


def fine_numbers(lot, prime):
    """The dict of `fine_table`."""
    products = worked_multiples(lot)
    if products is None:
        raise TooMany(MAX_WORK)
    if lot.is_all:
        return {}
    found = {(0, nothing(lot.letters)): 1}
    for product in products:
        for place, number in hole_places(holes_of(part_sets(lot.members, product), prime), product):
            found[place] = number
    return {place: found[place] for place in sorted(found)}


def table_of(lot, prime=0):
    """The table of the lot by degrees."""
    check_lot(lot)
    check_field(prime)
    numbers = fine_numbers(lot, prime)
    return table_of_counts([((step, sum(product)), numbers[step, product]) for step, product in numbers])
