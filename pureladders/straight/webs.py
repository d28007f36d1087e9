"""Webs of letters: orders in which they can be taken off, and rings without chords.

The ties of a web are told by a list, for each letter, of those letters that are tied to it.
"""


def ties_of(pairs, many):
    """The list of the lists of letters tied to each of so many letters."""
    ties = [[] for _ in range(many)]
    for low, high in pairs:
        ties[low].append(high)
        ties[high].append(low)
    return ties


def are_all_tied(letters, ties):
    """Whether each two of the letters are tied."""
    return all([one == other or other in ties[one] for one in letters for other in letters])


def order_of(ties):
    """A tuple of all letters of a web without rings, each one tied to later ones that are tied to one another.

    Such a web has a letter whose neighbours are tied to one another, and so has what is left without it.
    """
    order = []
    rest = list(range(len(ties)))
    while rest:
        free = [letter for letter in rest if are_all_tied([other for other in rest if other in ties[letter]], ties)]
        order.append(free[0])
        rest = [letter for letter in rest if letter != free[0]]
    return tuple(order)


def ring_of(ties):
    """A tuple of four or more letters that are a ring without a chord; None if the web has none.

    A letter of such a ring has two neighbours that are not tied to one another.
    The ring goes a way between both that passes by all that is tied to the letter.
    """
    letters = list(range(len(ties)))
    for letter in letters:
        around = [other for other in letters if other != letter and other not in ties[letter]]
        for first in ties[letter]:
            for last in [other for other in ties[letter] if other != first and other not in ties[first]]:
                way = shortest_way(first, last, around, ties)
                if way is not None:
                    return (letter,) + way
    return None


def shortest_way(first, last, allowed, ties):
    """A shortest way from the first letter to the last one, through allowed letters; None if there is none."""
    seen = [first]
    ways = [(first,)]
    while ways:
        longer = []
        for way in ways:
            if last in ties[way[-1]]:
                return way + (last,)
            following = [letter for letter in ties[way[-1]] if letter in allowed and letter not in seen]
            seen = seen + following
            longer = longer + [way + (letter,) for letter in following]
        ways = longer
    return None


def is_ring(letters, ties):
    """Whether four or more letters are tied to the next one, the last one to the first one, and not otherwise."""
    many = len(letters)
    if many < 4:
        return False
    for at, letter in enumerate(letters):
        tied = [other for other in letters if other in ties[letter]]
        if sorted(tied) != sorted([letters[at - 1], letters[(at + 1) % many]]):
            return False
    return True
