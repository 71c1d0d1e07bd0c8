"""Parts of a floor: stretches of one cell at least, no two of which share a cell."""

from haulbell.errors import NoPart
from haulbell.store import is_within
from haulbell.stretches import apart

MOST_MEMBERS = 4
THINGS_OF_A_MEMBER = 4


def is_member(thing):
    return isinstance(thing, tuple) and len(thing) == THINGS_OF_A_MEMBER


def are_members(thing):
    if not isinstance(thing, list) or not 1 <= len(thing) <= MOST_MEMBERS:
        return False
    return all([is_member(member) for member in thing])


def is_part(part, size):
    return is_within(part[0], part[1], size) and part[0] < part[1]


# The parts of the members, in their order.
def parts_of(members, size):
    if not are_members(members):
        raise NoPart(-1)
    parts = []
    for at, member in enumerate(members):
        part = (member[0], member[1])
        if not is_part(part, size) or not apart(parts + [part]):
            raise NoPart(at)
        parts.append(part)
    return parts
