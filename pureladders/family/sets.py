"""Sets, told as ascending tuples of integers from 0 on."""

from pureladders.base.checks import is_within


def is_set(value, many):
    """Whether the value is an ascending tuple of integers below `many`."""
    if not isinstance(value, tuple) or not all([is_within(corner, 0, many - 1) for corner in value]):
        return False
    return all([low < high for low, high in zip(value, value[1:])])


def ordered(sets):
    """The tuple of the sets, first by size, then ascending."""
    return tuple(sorted(sets, key=lambda chosen: (len(chosen), chosen)))


def smaller_sets(chosen):
    """The list of the sets without one member, the first one lacks the first member."""
    return [chosen[:at] + chosen[at + 1:] for at in range(len(chosen))]


def boundary_of(chosen):
    """The dict from the sets without one member to their signs."""
    return {smaller: -1 if at % 2 else 1 for at, smaller in enumerate(smaller_sets(chosen))}


def all_within(sets):
    """The tuple of all sets within some sets, first by size, then ascending."""
    found = {}
    waiting = list(sets)
    while waiting:
        chosen = waiting.pop()
        if chosen not in found:
            found[chosen] = True
            waiting.extend(smaller_sets(chosen))
    return ordered(found)


def greatest_sets(sets):
    """The ascending tuple of the members of a family that lie in no other member."""
    covered = {}
    for chosen in sets:
        for smaller in smaller_sets(chosen):
            covered[smaller] = True
    return tuple(sorted([chosen for chosen in sets if chosen not in covered]))


def is_inside(chosen, other):
    """Whether all members of the one set are members of the other one."""
    return all([corner in other for corner in chosen])


def complement(chosen, many):
    """The set of all integers below `many` that are not in the set."""
    return tuple([corner for corner in range(many) if corner not in chosen])


def sets_inside(sets, outer):
    """The list of those sets that lie within the outer one."""
    return [chosen for chosen in sets if is_inside(chosen, outer)]


def link_sets(sets, member):
    """The list of what members of a family have besides this one, if they have it."""
    around = [chosen for chosen in sets if is_inside(member, chosen)]
    return [tuple([corner for corner in chosen if corner not in member]) for chosen in around]
