"""Troops: occurrences of a web that go together, each with all its causes."""

from unfoldnet.bits import bits_of, members
from unfoldnet.errors import Clash
from unfoldnet.relations import shared_spot


def own(web, one):
    """The own troop of an occurrence: it with all its causes."""
    web.must_have_occurrence(one)
    return members(web.own_bits[one])


def missing_cause(web, some):
    """A tuple ("cause", one, other), other a cause of one that a list lacks; or None."""
    there = bits_of(some)
    for one in some:
        lacking = members(web.own_bits[one] & ~there)
        if lacking:
            return ("cause", one, lacking[0])
    return None


def flaw(web, some):
    """Why a rising list of occurrences is no troop, as a tuple; None where it is one."""
    lacking = missing_cause(web, some)
    if lacking is not None:
        return lacking
    # Where no cause is missing, some two of the list clash only if two of it take the same spot themselves.
    there = bits_of(some)
    found = shared_spot(web, there, there)
    if found is None:
        return None
    return ("clash", min(found[0], found[1]), max(found[0], found[1]))


def together(web, one, other):
    """The troop of all that are in one of two troops."""
    # No cause can be missing, so that only two takers of one spot keep the two from being a troop.
    found = shared_spot(web, bits_of(one), bits_of(other))
    if found is not None:
        raise Clash(found[0], found[1])
    return sorted(set(one) | set(other))
