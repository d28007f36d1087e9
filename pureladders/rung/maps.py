"""The rungs and maps of ladders as bare tuples: units, cuts, strands, products and ranks."""

from pureladders.base.ranks import is_zero
from pureladders.base.sparse import ranks_along, sparse_row
from pureladders.lot.exponents import fits

GREAT_PRIME = 2 ** 61 - 1


def units_of(rungs, maps, prime):
    """The ascending list of the units (step, upper, lower)."""
    found = []
    for step in range(2, len(rungs)):
        for upper, row in enumerate(maps[step - 1]):
            same = [at for at, product in enumerate(rungs[step - 1]) if product == rungs[step][upper]]
            found.extend([(step, upper, lower) for lower in same if not is_zero(row[lower], prime)])
    return found


def unit_integer(maps, unit):
    """The integer of a unit."""
    step, upper, lower = unit
    return maps[step - 1][upper][lower]


def without(row, place):
    """The row without one entry."""
    return row[:place] + row[place + 1:]


def cut_rungs(rungs, unit):
    """The rungs without both rungs of a unit."""
    step, upper, lower = unit
    return rungs[:step - 1] + (without(rungs[step - 1], lower), without(rungs[step], upper)) + rungs[step + 1:]


def cut_maps(maps, unit, prime):
    """The maps behind a cut at a unit."""
    step, upper, lower = unit
    below = without(maps[step - 2], lower)
    here = tuple([without(row, lower) for row in without(crossed_rows(maps[step - 1], upper, lower), upper)])
    above = tuple([tuple([without(row, upper) for row in rows]) for rows in maps[step:step + 1]])
    cut = maps[:step - 2] + (below, here) + above + maps[step + 1:]
    if not prime:
        return cut
    return tuple([tuple([tuple([entry % prime for entry in row]) for row in rows]) for rows in cut])


def crossed_rows(rows, upper, lower):
    """The rows, multiplied by the unit, less the multiples of the upper one that make their entries at `lower` 0."""
    pivot = rows[upper]
    return tuple([crossed_row(row, pivot, lower) for row in rows])


def crossed_row(row, pivot, place):
    """The row, multiplied by the pivot's entry, less its own entry times the pivot."""
    high, low = pivot[place], row[place]
    return tuple([high * under - low * over for under, over in zip(row, pivot)])


def end_of(rungs):
    """How many steps there are but for last ones without rungs; step 0 has one."""
    end = len(rungs)
    while not rungs[end - 1]:
        end -= 1
    return end


def strand_places(rungs, product):
    """The indices of the rungs whose products divide the product, a list for each step."""
    return [[at for at, rung in enumerate(step) if fits(rung, product)] for step in rungs]


def strand_rungs(rungs, places):
    """The rungs at the places."""
    return tuple([tuple([step[at] for at in kept]) for step, kept in zip(rungs, places)])


def strand_maps(maps, places):
    """The integers between the rungs at the places."""
    found = []
    for step, rows in enumerate(maps):
        columns = places[step]
        found.append(tuple([tuple([rows[at][column] for column in columns]) for at in places[step + 1]]))
    return tuple(found)


def told_products(rungs, maps, prime):
    """The products of those rungs of step 1 whose only integer is not 0 in the field."""
    if not maps:
        return []
    return [product for product, row in zip(rungs[1], maps[0]) if not is_zero(row[0], prime)]


def product_fault(rungs, maps, prime):
    """The least place at which the product of two maps is not 0, as a fault; None if there is none."""
    for step in range(2, len(rungs)):
        for upper, row in enumerate(maps[step - 1]):
            sums = [0] * len(rungs[step - 2])
            for entry, below in zip(row, maps[step - 2]):
                if entry != 0:
                    sums = [total + entry * under for total, under in zip(sums, below)]
            for lower, total in enumerate(sums):
                if not is_zero(total, prime):
                    return ("product", step, upper, lower)
    return None


def hole_fault(rungs, maps, products, prime):
    """The least of the products, then the least step, at which a strand has a hole, as a fault; None if none has.

    Products of maps must be 0. So two ranks are never more than the rungs. Over
    the fractions they are at least those modulo a prime: if these are enough,
    the longer integers need not be looked at.
    """
    modulus = prime or GREAT_PRIME
    fast, exact = sparse_maps(maps, modulus), sparse_maps(maps, prime)
    for product in products:
        places = strand_places(rungs, product)[1:]
        if step_with_hole(fast, places, modulus) is not None:
            step = step_with_hole(exact, places, prime)
            if step is not None:
                return ("hole", product, step)
    return None


def sparse_maps(maps, prime):
    """The maps with rows as dicts of the entries that are not 0 in the field."""
    return [[sparse_row(row, prime) for row in rows] for rows in maps]


def step_with_hole(maps, places, prime):
    """The least step at which the ranks of both maps are not as many as the rungs at the places.

    An integer other than 0 tells that the lower rung divides the upper one. So a
    strand has all entries of the rows of its rungs.
    """
    kept = [{at: rows[at] for at in chosen} for rows, chosen in zip(maps, places)]
    ranks = ranks_along(kept, prime) + [0]
    for at, chosen in enumerate(places):
        if ranks[at] + ranks[at + 1] != len(chosen):
            return at + 1
    return None
