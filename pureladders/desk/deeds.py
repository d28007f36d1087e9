"""What deeds make of the lots of a desk."""

from pureladders.errors import Refused, UnknownName
from pureladders.lot.exponents import greater, taken_off
from pureladders.lot.lots import MAX_MEMBERS, made_lot
from pureladders.lot.members import least_of


def lots_after(lots, deed, at):
    """The dict from names, ascending, to lots behind a deed, the one with this index in its row."""
    for name in asked_names(deed):
        if name not in lots:
            raise UnknownName(name)
    found = {name: lots[name] for name in lots if name != deed[1]}
    if deed[0] == "put":
        found[deed[1]] = deed[2]
    elif deed[0] != "take":
        found[deed[1]] = limited_lot(lots[asked_names(deed)[0]].letters, made_products(lots, deed), at)
    return {name: found[name] for name in sorted(found)}


def asked_names(deed):
    """The tuple of the names that have to stand for a lot, in the sequence of the deed."""
    if deed[0] == "put":
        return ()
    if deed[0] in ("join", "meet"):
        return deed[2:]
    return deed[1:2]


def made_products(lots, deed):
    """Products whose multiples are the lot that a deed makes."""
    word = deed[0]
    members = lots[asked_names(deed)[0]].members
    if word == "add":
        return members + (deed[2],)
    if word == "quotient":
        return [taken_off(member, deed[2]) for member in members]
    others = lots[deed[3]].members
    if word == "join":
        return members + others
    return [greater(one, other) for one in members for other in others]


def limited_lot(letters, products, at):
    """The lot of the multiples of the products, unless it has too many least members."""
    members = least_of(products, MAX_MEMBERS + 1)
    if len(members) > MAX_MEMBERS:
        raise Refused(("great", at))
    return made_lot(letters, tuple(members))
