"""Lots by chance, the same ones in each run."""

import random

from pureladders.lot.lots import Lot


def some_lots(seed, count, letters=4, many=6, least=1, most=4):
    """Lots of up to so many products, each a product of some letters; two of a degree divide one another seldom."""
    chance = random.Random(seed)
    for _ in range(count):
        n = chance.randint(1, letters)
        rows = []
        for _ in range(chance.randint(0, many)):
            picked = chance.choices(range(n), k=chance.randint(least, most))
            rows.append(tuple(picked.count(at) for at in range(n)))
        yield Lot(n, tuple(rows))


def squarefree_lots(seed, count, letters=6, many=8):
    """Lots without squares of up to so many products of two to four letters."""
    chance = random.Random(seed)
    for _ in range(count):
        n = chance.randint(1, letters)
        rows = []
        for _ in range(chance.randint(0, many)):
            picked = chance.sample(range(n), min(n, chance.randint(1, 4)))
            rows.append(tuple(int(at in picked) for at in range(n)))
        yield Lot(n, tuple(rows))
