"""Families of sets of corners, and lots without squares."""

from pureladders.base.checks import check_within
from pureladders.base.ranks import check_field
from pureladders.errors import InvalidFamily, InvalidOperation, Refused, TooMany
from pureladders.family.holes import holes_of
from pureladders.family.sets import all_within, greatest_sets, is_set, link_sets, ordered
from pureladders.family.sets import sets_inside, smaller_sets
from pureladders.family.words import family_text
from pureladders.lot.lots import MAX_MEMBERS, check_lot, made_lot
from pureladders.row.letters import free_sets, letter_sets
from pureladders.table.tables import table_of_counts

MAX_CORNERS = 8
MAX_POLARIZED = 8
MAX_GIVEN = 256


class Family:
    """The sets of `members`, and all sets within them. It never changes."""

    def __init__(self, corners, members):
        check_within(corners, 1, MAX_CORNERS)
        if not are_sets(members, corners):
            raise InvalidFamily("no tuple of at most 256 ascending tuples of corners")
        self._corners = corners
        self._sets = all_within(members)

    @property
    def corners(self):
        """How many corners there are."""
        return self._corners

    @property
    def members(self):
        """The ascending tuple of the greatest members."""
        return greatest_sets(self._sets)

    @property
    def dimension(self):
        """The greatest dimension of a member; -2 for the void family."""
        return max([len(chosen) for chosen in self._sets], default=-1) - 1

    @property
    def euler(self):
        """How many more members have an even dimension than an odd one."""
        return sum([1 if len(chosen) % 2 else -1 for chosen in self._sets])

    def restricted(self, corners):
        """The family of the members within some corners."""
        if not is_set(corners, self._corners):
            raise InvalidOperation("no ascending tuple of corners")
        return made_family(self._corners, sets_inside(self._sets, corners))

    def link(self, member):
        """The family of the sets apart from the member that make a member together with it."""
        if member not in self:
            raise InvalidOperation("no member")
        return made_family(self._corners, link_sets(self._sets, member))

    def holes(self, prime=0):
        """The numbers of holes over the field, from dimension -1 on to that of the family."""
        check_field(prime)
        return holes_of(self._sets, prime)

    def __contains__(self, value):
        return is_set(value, self._corners) and value in self._sets

    def __eq__(self, other):
        return isinstance(other, Family) and self._corners == other._corners and self._sets == other._sets

    def __bool__(self):
        return bool(self._sets)

    def __len__(self):
        return len(self._sets)

    def __iter__(self):
        return iter(self._sets)

    def __str__(self):
        return str(family_text(self._corners, greatest_sets(self._sets)))


def are_sets(value, corners):
    """Whether the value is a tuple of at most 256 sets of corners."""
    if not isinstance(value, tuple) or len(value) > MAX_GIVEN:
        return False
    return all([is_set(chosen, corners) for chosen in value])


def made_family(corners, sets):
    """The family with just these members, in any sequence."""
    family = Family(corners, ())
    family._sets = ordered(sets)
    return family


def check_family(value):
    """Refuse all but the families."""
    if not isinstance(value, Family):
        raise InvalidFamily("no family")


def check_squarefree(lot):
    """Refuse lots with squares."""
    if not lot.is_squarefree:
        raise Refused(("squares",))


def family_of(lot):
    """The family of the sets of letters whose product the lot without squares has not."""
    check_lot(lot)
    check_squarefree(lot)
    return made_family(lot.letters, free_sets(lot.letters, lot.members))


def lot_of(family):
    """The lot without squares of this family."""
    check_family(family)
    return lot_of_sets(family.corners, list(family))


def lot_of_sets(letters, sets):
    """The lot of the products of those sets that lack in a family with these members."""
    lacking = [chosen for chosen in letter_sets(letters) if chosen not in sets]
    least = [chosen for chosen in lacking if all([smaller in sets for smaller in smaller_sets(chosen)])]
    if len(least) > MAX_MEMBERS:
        raise TooMany(MAX_MEMBERS)
    return made_lot(letters, tuple(sorted([product_of_set(chosen, letters) for chosen in least])))


def product_of_set(chosen, letters):
    """The product of the letters of a set."""
    return tuple([1 if letter in chosen else 0 for letter in range(letters)])


def table_by_sets(lot, prime=0):
    """The table of a lot without squares, told by the holes of its restricted family."""
    check_lot(lot)
    check_field(prime)
    check_squarefree(lot)
    sets = free_sets(lot.letters, lot.members)
    counts = []
    for chosen in letter_sets(lot.letters):
        holes = holes_of(sets_inside(sets, chosen), prime)
        size = len(chosen)
        # The holes begin with the dimension -1, which belongs to the step of the size.
        counts = counts + [((size - at, size), number) for at, number in enumerate(holes)]
    return table_of_counts(counts)


def polarized(lot):
    """The lot with a new letter for each power of a letter, and the pairs that name the new letters."""
    check_lot(lot)
    most = [max([member[letter] for member in lot.members], default=0) for letter in range(lot.letters)]
    if sum(most) == 0:
        raise Refused(("letters",))
    if sum(most) > MAX_POLARIZED:
        raise TooMany(MAX_POLARIZED)
    names = [(letter, number) for letter, many in enumerate(most) for number in range(1, many + 1)]
    members = [tuple([1 if member[letter] >= number else 0 for letter, number in names]) for member in lot.members]
    return made_lot(len(names), tuple(sorted(members))), tuple(names)
