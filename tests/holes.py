"""Holes of families, told for the tests by ranks of whole boundary tables."""

import itertools

from pureladders.base.ranks import rank_of


def closed(sets):
    """All sets within some sets."""
    return sorted({part for one in sets for size in range(len(one) + 1) for part in itertools.combinations(one, size)})


def boundary_table(upper, lower):
    """The rows of the upper sets, with signs at those lower sets that lack one corner."""
    rows = []
    for chosen in upper:
        faces = [chosen[:at] + chosen[at + 1:] for at in range(len(chosen))]
        rows.append(tuple((-1) ** faces.index(one) if one in faces else 0 for one in lower))
    return tuple(rows)


def holes_by_ranks(sets, prime):
    """The holes of a family with these members, from dimension -1 on."""
    if not sets:
        return ()
    last = max(map(len, sets))
    levels = [[one for one in sets if len(one) == size] for size in range(last + 1)]
    ranks = [0] + [rank_of(boundary_table(levels[k], levels[k - 1]), prime) for k in range(1, last + 1)] + [0]
    return tuple(len(levels[k]) - ranks[k] - ranks[k + 1] for k in range(last + 1))
