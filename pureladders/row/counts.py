"""How many products a lot leaves: degree by degree, far out, and by free letters."""

from pureladders.base.checks import check_within, is_number
from pureladders.base.integers import choices
from pureladders.errors import Refused, TooMany
from pureladders.lot.lots import check_lot
from pureladders.lot.products import all_products
from pureladders.row.letters import free_sets, greatest_size
from pureladders.row.series import series_of

MOST_COUNTED = 40
MOST_FAR = 1000000
MOST_LISTED_LETTERS = 4
MOST_LISTED_DEGREE = 12


def numerator(lot):
    """The dict from the degrees j with K(j) other than 0, ascending, to K(j)."""
    check_lot(lot)
    return series_of(lot.members)


def left_counts(lot, last):
    """How many products the lot leaves of each degree from 0 to `last`."""
    check_lot(lot)
    check_within(last, 0, MOST_COUNTED)
    series = series_of(lot.members)
    return tuple([left_number(series, lot.letters, degree) for degree in range(last + 1)])


def count_at(lot, degree):
    """How many products of the degree the lot leaves."""
    check_lot(lot)
    check_within(degree, 0, MOST_FAR)
    return left_number(series_of(lot.members), lot.letters, degree)


def left_products(lot, degree):
    """The ascending tuple of the products of the degree that the lot leaves."""
    check_lot(lot)
    check_within(degree, 0, MOST_LISTED_DEGREE)
    letters = lot.letters
    if letters > MOST_LISTED_LETTERS:
        raise TooMany(MOST_LISTED_LETTERS)
    left = [product for product in all_products(letters, degree) if product not in lot]
    return tuple(sorted(left))


def dimension(lot):
    """The greatest number of letters of a free set; -1 for the lot of all products."""
    check_lot(lot)
    return greatest_size(free_sets(lot.letters, lot.members))


def weight(lot):
    """How many products are left, or how their number grows in the end."""
    row = steady_row(lot)
    if row:
        return row[-1]
    series = series_of(lot.members)
    return sum([left_number(series, lot.letters, degree) for degree in range(steady_degree(lot))])


def steady_row(lot):
    """The integers c(0), c(1), .. of the polynomial that tells the counts in the end."""
    check_lot(lot)
    series = series_of(lot.members)
    numbers = [steady_number(series, lot.letters, degree) for degree in range(dimension(lot))]
    row = []
    while numbers:
        row.append(numbers[0])
        numbers = [after - before for before, after in zip(numbers, numbers[1:])]
    return tuple(row)


def steady_degree(lot):
    """The least degree from which on the polynomial tells the counts."""
    check_lot(lot)
    series, letters = series_of(lot.members), lot.letters
    degree = max([0] + [place - letters + 1 for place in series])
    while degree > 0 and is_steady(series, letters, degree - 1):
        degree -= 1
    return degree


def is_steady(series, letters, degree):
    """Whether the polynomial tells the count at the degree."""
    return left_number(series, letters, degree) == steady_number(series, letters, degree)


def left_number(series, letters, degree):
    """How many products of the degree a lot with this numerator leaves."""
    places = [place for place in series if place <= degree]
    return sum([series[place] * choices(degree - place + letters - 1, letters - 1) for place in places])


def steady_number(series, letters, degree):
    """The value of the polynomial at the degree."""
    return sum([series[place] * stretched(degree - place + letters - 1, letters - 1) for place in series])


def stretched(top, bottom):
    """The binomial as a polynomial in `top`, which may be below 0 here."""
    if top >= 0:
        return choices(top, bottom)
    sign = -1 if bottom % 2 == 1 else 1
    return sign * choices(bottom - top - 1, bottom)


def free_set(lot):
    """Any free set with as many letters as the dimension tells, ascending."""
    check_lot(lot)
    return greatest_free_sets(lot)[0]


def is_free_set(lot, value):
    """Whether the value is a free set with as many letters as the dimension tells."""
    check_lot(lot)
    sets = greatest_free_sets(lot)
    if not isinstance(value, tuple):
        return False
    # What is equal to a free set could have True in the place of 1.
    return all([is_number(index) for index in value]) and value in sets


def greatest_free_sets(lot):
    """The free sets with the most letters; the lot of all products has none at all."""
    sets = free_sets(lot.letters, lot.members)
    if not sets:
        raise Refused(("all",))
    most = greatest_size(sets)
    return [chosen for chosen in sets if len(chosen) == most]
