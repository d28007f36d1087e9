"""Sums of chains, and tables that differ by neighbours: fractions at a place and at the next step."""

from pureladders.base.ratios import check_short, is_above_zero, is_short, lowest_pair, pair_product, pair_sum
from pureladders.errors import InvalidOperation
from pureladders.pure.chains import all_turns, check_chain, sum_of_pures
from pureladders.pure.degrees import check_degrees, stands_below
from pureladders.table.shifts import shared_numbers
from pureladders.table.tables import MAX_STEP, check_table, fractions_of, is_place, table_of_fractions

MAX_JOINED = 250


def check_two_degrees(one, other):
    """Refuse all but two pure degrees."""
    check_degrees(one)
    check_degrees(other)


def lower_of(one, other):
    """The greatest pure degrees that are below both."""
    check_two_degrees(one, other)
    both = tuple([min(a, b) for a, b in zip(one, other)])
    return both + one[len(both):] + other[len(both):]


def upper_of(one, other):
    """The least pure degrees that both are below."""
    check_two_degrees(one, other)
    return tuple([max(a, b) for a, b in zip(one, other)])


def check_two_chains(one, other):
    """Refuse all but two chains of at most 250 pairs."""
    check_chain(one, MAX_JOINED)
    check_chain(other, MAX_JOINED)


def are_one_chain(one, other):
    """Whether of all pure degrees of both chains each two are below in one of the two sequences."""
    check_two_chains(one, other)
    return merged_pairs(one, other) is not None


def merged_pairs(one, other):
    """The list of the pairs of both chains in sequence, equal degrees once; None if they are not one chain."""
    found = []
    first, second = list(one), list(other)
    while first and second:
        (low, share), (high, more) = first[0], second[0]
        if low == high:
            found.append((low, pair_sum(share, more)))
            first, second = first[1:], second[1:]
        elif stands_below(low, high):
            found.append((low, share))
            first = first[1:]
        elif stands_below(high, low):
            found.append((high, more))
            second = second[1:]
        else:
            return None
    return found + first + second


def joined_chain(one, other):
    """The chain of all pairs of both chains; None if they are not one chain."""
    check_two_chains(one, other)
    pairs = merged_pairs(one, other)
    if pairs is None:
        return None
    return short_chain(pairs)


def short_chain(pairs):
    """The tuple of the pairs, unless an integer of them has more than sixty digits."""
    check_short([fraction for _, fraction in pairs])
    return tuple(pairs)


def chain_of_sum(one, other):
    """The chain of the sum of the tables of both chains."""
    check_two_chains(one, other)
    # Sums of tables of chains are never stuck.
    return all_turns(sum_of_pures(one + other), True)[0]


def scaled_chain(pairs, fraction):
    """The chain with all fractions multiplied by another one."""
    check_chain(pairs, MAX_JOINED)
    if not is_above_zero(fraction) or not is_short(fraction):
        raise InvalidOperation("no fraction above 0")
    return short_chain([(degrees, pair_product(share, fraction)) for degrees, share in pairs])


def neighbours(greater, lesser):
    """The neighbours that the first table has more than the second one; None if there are none such."""
    check_two_tables(greater, lesser)
    found = difference(greater, lesser)
    if found is not None:
        check_short(list(found.values()))
    return found


def check_two_tables(greater, lesser):
    """Refuse all but two tables."""
    check_table(greater)
    check_table(lesser)


def difference(greater, lesser):
    """The dict of the neighbours that make the second table the first one; None if there are none."""
    more = greater - lesser
    shared = shared_numbers(more.entries)
    if not all([step < MAX_STEP and shared[step, degree] > 0 for step, degree in shared]):
        return None
    return {place: lowest_pair(shared[place], more.bottom) for place in shared}


def is_neighbours(greater, lesser, value):
    """Whether the value is just the neighbours that make the second table the first one."""
    check_two_tables(greater, lesser)
    return are_neighbours_of_any(value) and value == difference(greater, lesser)


def are_neighbours_of_any(value):
    """Whether the value is a dict from places with steps to 7 to fractions above 0, of any length."""
    if not isinstance(value, dict) or not all([is_place(place) for place in value]):
        return False
    return all([place[0] < MAX_STEP and is_above_zero(value[place]) for place in value])


def taken(table, value):
    """The table less that of some neighbours."""
    check_table(table)
    if not are_neighbours_of_any(value) or not all([is_short(value[place]) for place in value]):
        raise InvalidOperation("no dict from places with steps to 7 to fractions above 0")
    rest = fractions_of(table)
    for step, degree in value:
        top, bottom = value[step, degree]
        for place in ((step, degree), (step + 1, degree)):
            rest[place] = pair_sum(rest.get(place, (0, 1)), (-top, bottom))
    return table_of_fractions(rest)
