"""Duals of families, links of members, and families whose links have no holes below their dimensions."""

from pureladders.base.checks import is_number
from pureladders.base.ranks import check_field
from pureladders.family.families import check_family, check_squarefree, lot_of_sets, made_family
from pureladders.family.holes import hole_places, holes_of
from pureladders.family.sets import complement, link_sets
from pureladders.lot.lots import check_lot
from pureladders.row.letters import free_sets, letter_sets
from pureladders.table.tables import table_of_counts


def dual(family):
    """The family of the complements of all sets that are no members."""
    check_family(family)
    return made_family(family.corners, dual_sets(family.corners, list(family)))


def dual_sets(corners, sets):
    """The list of the complements of all sets of corners that are not among these."""
    return [complement(chosen, corners) for chosen in letter_sets(corners) if chosen not in sets]


def dual_lot(lot):
    """The lot of the dual of the family of a lot without squares."""
    check_lot(lot)
    check_squarefree(lot)
    return lot_of_sets(lot.letters, sets_of_dual(lot))


def sets_of_dual(lot):
    """The members of the family of the dual lot."""
    return dual_sets(lot.letters, free_sets(lot.letters, lot.members))


def is_whole(family, prime=0):
    """Whether no link of a member has a hole below its own dimension."""
    return hole_below(family, prime) is None


def hole_below(family, prime=0):
    """The least pair of a member and a dimension that shows that the family is not whole; None if it is."""
    check_family(family)
    check_field(prime)
    for member in sorted(list(family)):
        dimensions = low_dimensions(family, member, prime)
        if dimensions:
            return member, dimensions[0]
    return None


def low_dimensions(family, member, prime):
    """The dimensions below that of the link of the member in which the link has holes, ascending."""
    holes = holes_of(link_sets(list(family), member), prime)
    return [at - 1 for at, number in enumerate(holes[:-1]) if number != 0]


def is_hole_below(family, prime, value):
    """Whether the value is a pair of a member and a dimension that shows that the family is not whole."""
    check_family(family)
    check_field(prime)
    if not isinstance(value, tuple) or len(value) != 2 or value[0] not in family:
        return False
    return is_number(value[1]) and value[1] in low_dimensions(family, value[0], prime)


def table_by_links(lot, prime=0):
    """The table of a lot without squares, told by the links of the family of its dual lot."""
    check_lot(lot)
    check_field(prime)
    check_squarefree(lot)
    sets = sets_of_dual(lot)
    # Just the lots with a dual lot have a table by links, and it can have too many least members.
    lot_of_sets(lot.letters, sets)
    if lot.is_all:
        return table_of_counts([])
    counts = [((0, 0), 1)]
    for member in sets:
        counts = counts + hole_places(holes_of(link_sets(sets, member), prime), lot.letters - len(member))
    return table_of_counts(counts)
