"""The numerator of a lot, told by its least members.

A letter to a power u splits a lot L in two: K of L is K of L + (u), and K of
L : u as many degrees later as u has [3.2]. This ends with lots whose members
share no letter; the sets of their members are counted by a product.
"""

from pureladders.lot.members import least_of


def series_of(members):
    """The dict from the degrees j with K(j) other than 0, ascending, to K(j)."""
    found = {}
    waiting = [(list(members), 0)]
    while waiting:
        rows, later = waiting.pop()
        letter = shared_letter(rows)
        if letter is None:
            for degree, number in enumerate(apart_series(rows)):
                found[degree + later] = found.get(degree + later, 0) + number
        else:
            exponent = middle_exponent(rows, letter)
            waiting.append((with_power(rows, letter, exponent), later))
            waiting.append((without_power(rows, letter, exponent), later + exponent))
    return {degree: found[degree] for degree in sorted(found) if found[degree] != 0}


def shared_letter(rows):
    """The letter that most members have; None if no two of them share one."""
    if not rows:
        return None
    counts = [len([row for row in rows if row[letter] > 0]) for letter in range(len(rows[0]))]
    if max(counts) < 2:
        return None
    return counts.index(max(counts))


def middle_exponent(rows, letter):
    """An exponent of the letter whose power is not in the lot: both parts are greater lots then."""
    exponents = sorted([row[letter] for row in rows if 0 < row[letter] < sum(row)])
    return exponents[len(exponents) // 2]


def with_power(rows, letter, exponent):
    """The least members of the lot with the power of the letter."""
    power = [0] * len(rows[0])
    power[letter] = exponent
    return [row for row in rows if row[letter] < exponent] + [tuple(power)]


def without_power(rows, letter, exponent):
    """The least members of the quotient of the lot by the power of the letter."""
    return least_of([row[:letter] + (max(row[letter] - exponent, 0),) + row[letter + 1:] for row in rows])


def apart_series(rows):
    """The list of K(0), K(1), .. of a lot whose members share no letter."""
    series = [1]
    for row in rows:
        later = [0] * sum(row) + series
        series = [one - other for one, other in zip(series + [0] * sum(row), later)]
    return series
