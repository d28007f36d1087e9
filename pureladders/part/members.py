"""Sets of least members: their parts at products, and those with a common multiple of their own."""

from pureladders.base.ranks import check_field
from pureladders.errors import TooMany
from pureladders.family.holes import hole_places, holes_of
from pureladders.family.sets import all_within
from pureladders.lot.exponents import fits, greater, nothing
from pureladders.lot.lots import check_lot
from pureladders.lot.products import check_product
from pureladders.table.tables import table_of_counts

MAX_MEMBERS = 8


def check_few(lot):
    """Refuse lots with more than eight least members."""
    if len(lot) > MAX_MEMBERS:
        raise TooMany(MAX_MEMBERS)


def members_part(lot, product):
    """The ascending tuple of the sets of members that divide the product, and have another common multiple."""
    check_lot(lot)
    check_product(product, lot.letters)
    check_few(lot)
    return tuple(sorted(low_sets(lot.members, product)))


def low_sets(members, product):
    """The sets of the members' part: each of them has less than the product of one letter at least."""
    dividing = [at for at, member in enumerate(members) if fits(member, product)]
    if not dividing:
        return ()
    letters = [letter for letter, exponent in enumerate(product) if exponent > 0]
    return all_within([low_members(members, dividing, product, letter) for letter in letters])


def low_members(members, dividing, product, letter):
    """The indices of those dividing members that have less of the letter than the product."""
    return tuple([at for at in dividing if members[at][letter] < product[letter]])


def members_holes(lot, product, prime=0):
    """The numbers of holes of the members' part, from dimension -1 on to its own dimension."""
    check_lot(lot)
    check_product(product, lot.letters)
    check_field(prime)
    check_few(lot)
    return holes_of(low_sets(lot.members, product), prime)


def table_by_members(lot, prime=0):
    """The table of the lot by degrees, made of the holes of the members' parts."""
    check_lot(lot)
    check_field(prime)
    check_few(lot)
    counts = [] if lot.is_all else [((0, 0), 1)]
    for product in sorted(set(list(sets_multiples(lot).values()))):
        counts = counts + hole_places(holes_of(low_sets(lot.members, product), prime), sum(product))
    return table_of_counts(counts)


def sets_multiples(lot):
    """The dict from all sets of indices of members, ascending, to their common multiples."""
    found = {(): nothing(lot.letters)}
    for at, member in enumerate(lot.members):
        for chosen in list(found):
            found[chosen + (at,)] = greater(found[chosen], member)
    return {chosen: found[chosen] for chosen in sorted(found)}


def scarf(lot):
    """The dict from all lone sets of indices, ascending, to their common multiples."""
    check_lot(lot)
    check_few(lot)
    return lone_sets(lot)


def lone_sets(lot):
    """The dict of `scarf`."""
    found = sets_multiples(lot)
    products = list(found.values())
    return {chosen: found[chosen] for chosen in found if products.count(found[chosen]) == 1}


def is_scarf(lot, prime=0):
    """Whether the table of the lot has at each step as much as there are lone sets of this size."""
    entries = table_by_members(lot, prime).entries
    # No step of a table has less, so the sums over all steps tell the same.
    return sum(list(entries.values())) == len(lone_sets(lot))
