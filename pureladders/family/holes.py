"""The holes of a family, told by the ranks of its boundaries."""

from pureladders.base.sparse import ranks_along
from pureladders.family.sets import boundary_of


def holes_of(sets, prime):
    """The numbers of holes from dimension -1 on to that of the family with these members."""
    most = max([len(chosen) for chosen in sets], default=-1)
    levels = [[chosen for chosen in sets if len(chosen) == size] for size in range(most + 1)]
    ranks = ranks_along([boundary_rows(level, prime) for level in levels[1:]], prime)
    ranks = [0] + ranks + [0]
    return tuple([len(level) - ranks[size] - ranks[size + 1] for size, level in enumerate(levels)])


def boundary_rows(sets, prime):
    """The dict from the sets to their boundaries over the field."""
    rows = {chosen: boundary_of(chosen) for chosen in sets}
    if not prime:
        return rows
    return {chosen: {smaller: rows[chosen][smaller] % prime for smaller in rows[chosen]} for chosen in rows}


def hole_places(holes, degree):
    """The list of the pairs of places and numbers of holes, other than 0, of a part at a product of the degree.

    A hole of dimension i - 2 belongs to the step i.
    """
    return [((at + 1, degree), number) for at, number in enumerate(holes) if number != 0]
