"""Over which primes the holes of families and the tables of lots are not those over the fractions."""

from pureladders.base.integers import prime_divisors
from pureladders.base.ranks import check_field
from pureladders.base.sparse import divisors_above_one
from pureladders.errors import InvalidNumber
from pureladders.family.families import Family, check_family
from pureladders.family.sets import boundary_of
from pureladders.lot.lots import check_lot, multiples
from pureladders.lot.products import check_product
from pureladders.part.parts import part_sets, table_of
from pureladders.table.shifts import shared_numbers

HALF_SPHERE = (
    (0, 1, 2), (0, 2, 3), (0, 3, 4), (0, 4, 5), (0, 1, 5), (1, 2, 4), (2, 3, 5), (1, 3, 4), (2, 4, 5), (1, 3, 5))


def boundary_divisors(family):
    """The dict from dimensions to the elementary divisors above 1 of the boundary tables of a family."""
    check_family(family)
    return divisors_of_sets(list(family))


def part_divisors(lot, product):
    """The dict from dimensions to the elementary divisors above 1 of the boundary tables of a part."""
    check_lot(lot)
    check_product(product, lot.letters)
    return divisors_of_sets(part_sets(lot.members, product))


def divisors_of_sets(sets):
    """The dict of the divisors of the boundary tables of a family with these members."""
    found = {}
    for size in range(1, max([len(chosen) for chosen in sets], default=0) + 1):
        divisors = divisors_above_one([boundary_of(chosen) for chosen in sets if len(chosen) == size])
        if divisors:
            found[size - 1] = divisors
    return found


def dividing_primes(lot):
    """The ascending tuple of the primes over which the table of the lot is not that over the fractions."""
    found = []
    for product in multiples(lot):
        for divisors in list(part_divisors(lot, product).values()):
            # Each divisor divides the next one.
            found.extend(prime_divisors(divisors[-1]))
    return tuple(sorted(set(found)))


def is_same_everywhere(lot):
    """Whether the lot has one table over all fields."""
    return not dividing_primes(lot)


def field_neighbours(lot, prime):
    """The dict from places to the numbers that the table over the prime has more there and a step higher."""
    check_lot(lot)
    check_field(prime)
    if prime == 0:
        raise InvalidNumber(prime)
    # The number of multiples is limited ahead of the work for the tables.
    multiples(lot)
    return shared_numbers((table_of(lot, prime) - table_of(lot)).entries)


def half_sphere():
    """The family on six corners with holes over the prime 2 alone."""
    return Family(6, HALF_SPHERE)
