"""Sets of letters, and which of them are free of a lot."""


def letter_sets(letters):
    """All sets of letters, as ascending tuples of indices."""
    found = [()]
    for index in range(letters):
        found = found + [chosen + (index,) for chosen in found]
    return found


def is_free(chosen, members):
    """Whether no member is a product of powers of the chosen letters alone."""
    for member in members:
        others = [index for index, exponent in enumerate(member) if exponent > 0 and index not in chosen]
        if not others:
            return False
    return True


def free_sets(letters, members):
    """All free sets of a lot in so many letters."""
    return [chosen for chosen in letter_sets(letters) if is_free(chosen, members)]


def greatest_size(sets):
    """The size of the greatest of the sets; -1 if there are none."""
    return max([len(chosen) for chosen in sets], default=-1)
