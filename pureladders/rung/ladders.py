"""Ladders: rungs at steps, maps between them, and whether they are right for a lot."""

from pureladders.base.checks import are_all_passed, check_within, is_number, is_passed
from pureladders.base.ranks import check_field
from pureladders.errors import InvalidLadder, InvalidOperation, TooMany
from pureladders.family.sets import boundary_of
from pureladders.lot.exponents import are_exponents, fits, nothing
from pureladders.lot.lots import check_lot, limited_members, made_lot
from pureladders.lot.members import common_multiples, least_of
from pureladders.lot.products import MAX_EXPONENT, MAX_LETTERS, check_product
from pureladders.part.members import sets_multiples
from pureladders.rung.maps import cut_maps, cut_rungs, end_of, hole_fault, product_fault, told_products
from pureladders.rung.maps import strand_maps, strand_places, strand_rungs, unit_integer, units_of
from pureladders.table.tables import table_of_counts

MAX_STEP = 8
MAX_RUNGS = 70
MAX_TAYLOR = 7
MAX_STRANDS = 200
MAX_DIGITS = 60


class Ladder:
    """Rungs, products at each step, and a map from each step to the one below. It never changes."""

    def __init__(self, letters, rungs, maps):
        check_within(letters, 1, MAX_LETTERS)
        if not are_rungs(rungs, letters):
            raise InvalidLadder("no tuple of steps of rungs")
        if not are_maps(maps, rungs):
            raise InvalidLadder("no tuple of the maps of all steps from 1 on")
        if strand_products(rungs, letters) is None:
            raise TooMany(MAX_STRANDS)
        self._letters = letters
        self._rungs = rungs
        self._maps = maps

    @property
    def letters(self):
        """How many letters there are."""
        return self._letters

    @property
    def rungs(self):
        """The tuple of the tuples of the rungs of all steps."""
        return self._rungs

    @property
    def maps(self):
        """The tuple of the maps of all steps from 1 on."""
        return self._maps

    @property
    def table(self):
        """The table of the numbers of rungs of each step and each degree."""
        counts = [((step, sum(rung)), 1) for step, rungs in enumerate(self._rungs) for rung in rungs]
        return table_of_counts(counts)

    def strand(self, product):
        """The ladder of the rungs whose products divide the product."""
        check_product(product, self._letters)
        places = strand_places(self._rungs, product)
        return made_ladder(self._letters, strand_rungs(self._rungs, places), strand_maps(self._maps, places))

    def __eq__(self, other):
        if not isinstance(other, Ladder):
            return False
        return self._letters == other._letters and self._rungs == other._rungs and self._maps == other._maps

    def __len__(self):
        return len(all_rungs(self._rungs))

    def __str__(self):
        counts = ", ".join([str(len(step)) for step in self._rungs])
        return f"ladder of {counts} rungs"


def are_rungs(value, letters):
    """Whether the value is a tuple of steps, the first one with the product of degree 0 alone."""
    if not isinstance(value, tuple) or not 1 <= len(value) <= MAX_STEP + 1:
        return False
    if not all([are_step_rungs(step, letters) for step in value]):
        return False
    return value[0] == (nothing(letters),) and end_of(value) == len(value)


def are_step_rungs(value, letters):
    """Whether the value is a tuple of at most 70 products."""
    if not isinstance(value, tuple) or len(value) > MAX_RUNGS:
        return False
    return all([are_exponents(rung, letters, MAX_EXPONENT) for rung in value])


def are_maps(value, rungs):
    """Whether the value is the tuple of the maps between steps with these rungs."""
    if not isinstance(value, tuple) or len(value) != len(rungs) - 1:
        return False
    return all([is_map(rows, upper, lower) for rows, upper, lower in zip(value, rungs[1:], rungs)])


def is_map(value, upper, lower):
    """Whether the value is a tuple of rows that go from upper rungs to lower ones."""
    if not isinstance(value, tuple) or len(value) != len(upper):
        return False
    return all([is_map_row(row, rung, lower) for row, rung in zip(value, upper)])


def is_map_row(value, rung, lower):
    """Whether the value is a row of integers for lower rungs, which are 0 at those that do not divide the rung."""
    if not are_all_passed(value) or len(value) != len(lower):
        return False
    return all([entry == 0 or fits(product, rung) for entry, product in zip(value, lower)])


def all_rungs(rungs):
    """The list of the rungs of all steps."""
    return [rung for step in rungs for rung in step]


def strand_products(rungs, letters):
    """The ascending list of the common multiples of rungs; None if there are more than 200."""
    return common_multiples(all_rungs(rungs), letters, MAX_STRANDS)


def made_ladder(letters, rungs, maps):
    """The ladder without last steps that have no rungs; nothing is checked."""
    end = end_of(rungs)
    ladder = Ladder(letters, ((nothing(letters),),), ())
    ladder._rungs = rungs[:end]
    ladder._maps = maps[:end - 1]
    return ladder


def check_ladder(value):
    """Refuse all but the ladders."""
    if not isinstance(value, Ladder):
        raise InvalidLadder("no ladder")


def told_lot(ladder, prime=0):
    """The lot of the products of the rungs of step 1 with an integer other than 0 in the field."""
    check_ladder(ladder)
    check_field(prime)
    return made_lot(ladder.letters, limited_members(told_products(ladder.rungs, ladder.maps, prime)))


def ladder_fault(lot, ladder, prime=0):
    """What shows that the ladder is not right for the lot; None if it is right."""
    check_lot(lot)
    check_ladder(ladder)
    if ladder.letters != lot.letters:
        raise InvalidLadder("a ladder in another number of letters")
    check_field(prime)
    return first_fault(lot, ladder, prime)


def first_fault(lot, ladder, prime):
    """The first fault of a ladder in as many letters."""
    rungs, maps = ladder.rungs, ladder.maps
    fault = product_fault(rungs, maps, prime)
    if fault is not None:
        return fault
    if tuple(least_of(told_products(rungs, maps, prime))) != lot.members:
        return ("lot",)
    return hole_fault(rungs, maps, strand_products(rungs, ladder.letters), prime)


def is_ladder(lot, value, prime=0):
    """Whether the value is a ladder that is right for the lot."""
    check_lot(lot)
    check_field(prime)
    if not isinstance(value, Ladder) or value.letters != lot.letters:
        return False
    return first_fault(lot, value, prime) is None


def unit_of(ladder, prime=0):
    """The least unit (step, upper, lower); None if there is none."""
    check_ladder(ladder)
    check_field(prime)
    units = units_of(ladder.rungs, ladder.maps, prime)
    return units[0] if units else None


def is_least(ladder, prime=0):
    """Whether the ladder has no unit."""
    return unit_of(ladder, prime) is None


def cut(ladder, unit, prime=0):
    """The ladder behind a cut at the unit."""
    check_ladder(ladder)
    check_field(prime)
    if not isinstance(unit, tuple) or not all([is_number(index) for index in unit]):
        raise InvalidOperation("no triple of integers")
    if unit not in units_of(ladder.rungs, ladder.maps, prime):
        raise InvalidOperation("no unit over the field")
    return cut_ladder(ladder, unit, prime)


def cut_ladder(ladder, unit, prime):
    """The ladder behind a cut, unless an integer of it gets too long."""
    maps = cut_maps(ladder.maps, unit, prime)
    if not all([is_passed(entry) for rows in maps for row in rows for entry in row]):
        raise TooMany(MAX_DIGITS)
    return made_ladder(ladder.letters, cut_rungs(ladder.rungs, unit), maps)


def cut_down(ladder, prime=0):
    """The ladder behind cuts at the least unit, until there is none."""
    unit = unit_of(ladder, prime)
    while unit is not None:
        ladder = cut_ladder(ladder, unit, prime)
        unit = unit_of(ladder, prime)
    return ladder


def taylor(lot):
    """Taylor's ladder: all sets of least members are rungs."""
    check_lot(lot)
    check_taylor(lot)
    return taylor_ladder(lot)


def check_taylor(lot):
    """Refuse lots with more than seven least members."""
    if len(lot) > MAX_TAYLOR:
        raise TooMany(MAX_TAYLOR)


def taylor_ladder(lot):
    """Taylor's ladder of a lot with few least members."""
    products = sets_multiples(lot)
    steps = [[chosen for chosen in products if len(chosen) == size] for size in range(len(lot) + 1)]
    rungs = tuple([tuple([products[chosen] for chosen in step]) for step in steps])
    maps = tuple([taylor_map(upper, lower) for upper, lower in zip(steps[1:], steps)])
    return made_ladder(lot.letters, rungs, maps)


def taylor_map(upper, lower):
    """The rows of the boundaries of the upper sets, with an entry for each lower set."""
    rows = [boundary_of(chosen) for chosen in upper]
    return tuple([tuple([row.get(chosen, 0) for chosen in lower]) for row in rows])


def least_ladder(lot, prime=0):
    """Any ladder that is right for the lot over the field, and least."""
    check_lot(lot)
    check_field(prime)
    check_taylor(lot)
    ladder = taylor_ladder(lot)
    units = units_of(ladder.rungs, ladder.maps, prime)
    while units:
        # Cuts at 1 and -1 keep the integers short: each one is a determinant of Taylor's maps.
        ladder = cut_ladder(ladder, shortest_unit(ladder.maps, units), prime)
        units = units_of(ladder.rungs, ladder.maps, prime)
    return ladder


def shortest_unit(maps, units):
    """The first unit of those whose integers are nearest to 0."""
    return min([(abs(unit_integer(maps, unit)), unit) for unit in units])[1]
