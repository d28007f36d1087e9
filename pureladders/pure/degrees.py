"""Pure degrees, which of them are below others, and their tables."""

from math import lcm

from pureladders.base.checks import check_within
from pureladders.errors import InvalidDegrees
from pureladders.family.sets import is_set
from pureladders.table.tables import table_of_fractions

MAX_STEP = 8
MAX_PLACE = 480
MOST_LAST = 3
MOST_DEGREE = 5


def is_pure(value):
    """Whether the value is a tuple of one to nine ascending integers from 0 to 480."""
    return is_set(value, MAX_PLACE + 1) and 1 <= len(value) <= MAX_STEP + 1


def check_degrees(value):
    """Refuse all but the pure degrees."""
    if not is_pure(value):
        raise InvalidDegrees("no pure degrees")


def distances(degrees):
    """The list of the products of the distances of each degree from all others."""
    found = []
    for degree in degrees:
        product = 1
        for other in degrees:
            if other != degree:
                product = product * abs(degree - other)
        found.append(product)
    return found


def places_of(degrees):
    """The list of the places (step, degree) of pure degrees."""
    return list(enumerate(degrees))


def pure_table(degrees):
    """The table with the fraction 1 / (product of distances) at each place of the degrees."""
    check_degrees(degrees)
    return table_of_fractions({place: (1, far) for place, far in zip(places_of(degrees), distances(degrees))})


def whole_pure(degrees):
    """The least multiple of the pure table with integers alone, and the fraction that makes it."""
    check_degrees(degrees)
    entries = whole_entries(degrees)
    return table_of_fractions({place: (entries[place], 1) for place in entries}), (factor_of(degrees), 1)


def factor_of(degrees):
    """The factor of the whole pure table: no less multiple makes integers of all fractions with the top 1."""
    factor = 1
    for far in distances(degrees):
        factor = lcm(factor, far)
    return factor


def whole_entries(degrees):
    """The dict from the places to the integers of the whole pure table."""
    factor = factor_of(degrees)
    return {place: factor // far for place, far in zip(places_of(degrees), distances(degrees))}


def is_below(value, other):
    """Whether the value is pure degrees that are below the other ones."""
    check_degrees(other)
    return is_pure(value) and stands_below(value, other)


def stands_below(one, other):
    """Whether pure degrees have at least as many members, none of them above that of the other ones."""
    return len(one) >= len(other) and all([low <= high for low, high in zip(one, other)])


def check_window(last, most):
    """Refuse all but the windows with steps to 3 and degrees to 5."""
    check_within(last, 0, MOST_LAST)
    check_within(most, 0, MOST_DEGREE)


def pure_degrees(last, most):
    """The ascending tuple of all pure degrees with at most `last` + 1 members, none above `most`."""
    check_window(last, most)
    found = []
    longest = [()]
    for _ in range(last + 1):
        longest = [chosen + (degree,) for chosen in longest for degree in range(most + 1) if is_behind(degree, chosen)]
        found = found + longest
    return tuple(sorted(found))


def is_behind(degree, chosen):
    """Whether the degree is above all of those chosen, which ascend."""
    return not chosen or chosen[-1] < degree
