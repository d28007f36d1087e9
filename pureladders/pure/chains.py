"""Chains of pure tables, and taking them off a table by turns."""

from pureladders.base.ratios import check_short, is_above_zero, is_short, least_pair, lowest_pair
from pureladders.base.ratios import pair_product, pair_sum
from pureladders.errors import InvalidOperation
from pureladders.pure.degrees import distances, is_pure, places_of, stands_below
from pureladders.table.tables import check_table, fractions_of, table_of_fractions

MAX_CHAIN = 500


def is_pair(value):
    """Whether the value is a pair of pure degrees and of a fraction above 0, of any length."""
    return isinstance(value, tuple) and len(value) == 2 and is_pure(value[0]) and is_above_zero(value[1])


def are_rising(pairs):
    """Whether the degrees of each pair are below those of the next one, and other than these."""
    lowers = [degrees for degrees, _ in pairs]
    return all([low != high and stands_below(low, high) for low, high in zip(lowers, lowers[1:])])


def is_any_chain(value):
    """Whether the value is a chain of any number of pairs, with integers of any length."""
    return isinstance(value, tuple) and all([is_pair(pair) for pair in value]) and are_rising(value)


def check_chain(value, most):
    """Refuse all but the chains of at most so many pairs, with integers of at most sixty digits."""
    if not is_any_chain(value) or len(value) > most:
        raise InvalidOperation("no chain of at most so many pairs")
    if not all([is_short(fraction) for _, fraction in value]):
        raise InvalidOperation("an integer of more than sixty digits")


def pure_shares(degrees, fraction):
    """The list of the pairs of places and fractions of a pure table, multiplied by a fraction."""
    fars = distances(degrees)
    return [(place, lowest_pair(fraction[0], fraction[1] * far)) for place, far in zip(places_of(degrees), fars)]


def sum_of_pures(pairs):
    """The dict from places, ascending, to the fractions of the sum of pure tables, each multiplied by its fraction."""
    sums = {}
    for degrees, fraction in pairs:
        for place, share in pure_shares(degrees, fraction):
            sums[place] = pair_sum(sums.get(place, (0, 1)), share)
    return {place: sums[place] for place in sorted(sums)}


def table_of_chain(pairs):
    """The sum of the pure tables of a chain, each multiplied by its fraction."""
    check_chain(pairs, MAX_CHAIN)
    return table_of_fractions(sum_of_pures(pairs))


def is_chain(table, value):
    """Whether the value is the chain whose table the table is."""
    check_table(table)
    return is_any_chain(value) and sum_of_pures(value) == fractions_of(table)


def taking_off(table):
    """The chain of the table, or the pairs that were taken off until it was stuck, and the word that tells why."""
    check_table(table)
    pairs, word = all_turns(fractions_of(table), True)
    if word is None:
        return ("chain", pairs)
    return ("stuck", pairs, word)


def is_stuck(table):
    """Whether taking off does not end with the table 0."""
    return all_turns(fractions_of(table), False)[1] is not None


def all_turns(fractions, limited):
    """The pairs that are taken off, and the word for which the table is stuck; None if nothing is left.

    The table is told by the dict from its places, ascending, to its fractions other than 0.

    Limited turns end with an error as soon as a fraction gets too long: it would be returned in any case.
    """
    rest = {place: fractions[place] for place in fractions}
    for step, degree in rest:
        if rest[step, degree][0] < 0:
            return (), ("sign", step, degree)
    columns = falling_columns(rest)
    pairs = []
    while columns:
        word = stuck_word(columns)
        if word is not None:
            return tuple(pairs), word
        pair = take_turn(rest, columns)
        pairs.append(pair)
        if limited:
            check_short([pair[1]])
        while columns and not columns[-1]:
            columns.pop()
    return tuple(pairs), None


def falling_columns(places):
    """The list of the degrees of each step, the greatest degrees first, for ascending places."""
    columns = []
    for step, degree in places:
        while len(columns) <= step:
            columns.append([])
        columns[step].insert(0, degree)
    return columns


def stuck_word(columns):
    """Why the least degrees of all steps, at the ends of the columns, are no pure degrees; None if they are."""
    for step, column in enumerate(columns):
        if not column:
            return ("gap", step)
    for step in range(len(columns) - 1):
        if columns[step][-1] >= columns[step + 1][-1]:
            return ("rise", step)
    return None


def take_turn(rest, columns):
    """Take the greatest multiple of the pure table of the least degrees off; the pair that is written down."""
    degrees = tuple([column[-1] for column in columns])
    fars = distances(degrees)
    multiplier = least_pair([pair_product(rest[place], (far, 1)) for place, far in zip(places_of(degrees), fars)])
    for place, (top, bottom) in pure_shares(degrees, multiplier):
        rest[place] = pair_sum(rest[place], (-top, bottom))
        if rest[place][0] == 0:
            columns[place[0]].pop()
    return degrees, multiplier
