"""Tables as dicts of Python's fractions, and chains by chance: what the tests of pure tables share."""

import math
import random
from fractions import Fraction

from pureladders.table.tables import Table, made_table


def pair(number):
    """A fraction as the package tells it."""
    number = Fraction(number)
    return number.numerator, number.denominator


def number(told):
    return Fraction(*told)


def by_place(table):
    return {place: Fraction(top, table.bottom) for place, top in table.entries.items()}


def pure(degrees):
    """The pure table, as [0.14] tells it."""
    found = {}
    for at, degree in enumerate(degrees):
        found[at, degree] = Fraction(1)
        for other in degrees:
            if other != degree:
                found[at, degree] /= abs(degree - other)
    return found


def added(tables):
    """The sum of pairs of a table and its multiplier."""
    total = {}
    for table, times in tables:
        for place in table:
            total[place] = total.get(place, 0) + times * table[place]
    return {place: total[place] for place in sorted(total) if total[place]}


def chain_sum(pairs):
    return added([(pure(degrees), number(told)) for degrees, told in pairs])


def as_table(fractions):
    """The object of the package, with integers of any length."""
    bottom = math.lcm(*[told.denominator for told in fractions.values()])
    return made_table({place: int(told * bottom) for place, told in fractions.items()}, bottom)


def below(one, other):
    return len(one) >= len(other) and all(low <= high for low, high in zip(one, other))


def take_off(table):
    """Taking off from a dict of fractions, turn by turn, as [12.5] tells it."""
    rest, pairs = dict(table), []
    while rest:
        minus = [place for place in sorted(rest) if rest[place] < 0]
        if minus:
            return "stuck", tuple(pairs), ("sign",) + minus[0]
        steps = range(max(step for step, _ in rest) + 1)
        columns = [[degree for at, degree in sorted(rest) if at == step] for step in steps]
        gaps = [("gap", step) for step in steps if not columns[step]]
        if gaps:
            return "stuck", tuple(pairs), gaps[0]
        degrees = tuple(column[0] for column in columns)
        rises = [("rise", step) for step in steps[:-1] if degrees[step] >= degrees[step + 1]]
        if rises:
            return "stuck", tuple(pairs), rises[0]
        table = pure(degrees)
        times = min(rest[place] / table[place] for place in table)
        rest = added([(rest, 1), (table, -times)])
        pairs.append((degrees, pair(times)))
    return "chain", tuple(pairs)


def some_chains(seed, count, longest=8, last=4, most=9):
    """Chains by chance: degrees grow, and last ones leave, a few at a time."""
    chance = random.Random(seed)
    for _ in range(count):
        degrees = sorted(chance.sample(range(most // 2 + last), chance.randint(1, last + 1)))
        pairs = []
        for _ in range(chance.randint(0, longest)):
            pairs.append((tuple(degrees), pair(Fraction(chance.randint(1, 12), chance.randint(1, 12)))))
            degrees = grown(chance, degrees, most + last)
            if degrees is None:
                break
        yield tuple(pairs)


def grown(chance, degrees, most):
    """Other degrees that these are below; None if there are none."""
    for _ in range(20):
        more = [degree + chance.randint(0, 2) * chance.randint(0, 1) for degree in degrees]
        more = more[:len(more) - (chance.random() < 0.2 and len(more) > 1)]
        if more != degrees and more == sorted(set(more)) and more[-1] <= most:
            return more
    return None


def some_tables(seed, count, last=3, most=5, many=7, least=0, greatest=6):
    """Tables with a few fractions in a window, near the line at which the degree is the step."""
    chance = random.Random(seed)
    for _ in range(count):
        entries = {}
        for _ in range(chance.randint(0, many)):
            step = chance.randint(0, last)
            entries[step, min(most, step + chance.randint(0, 2))] = chance.randint(least, greatest)
        yield Table(entries, chance.choice((1, 1, 2, 6, 35)))
