"""Cuts: the spots that a troop leaves, its state, and what goes on from there."""

from unfoldnet.bits import bit, bits_of, members
from unfoldnet.play import played


def cut_bits(web, troop):
    """The bits of the spots that a troop leaves."""
    there = bit(len(web.net().start())) - 1
    taken = 0
    for one in troop:
        there = there | web.given_bits[one]
        taken = taken | bits_of(web.occurrence_tuples[one][1])
    return there & ~taken


def cut(web, troop):
    """The rising list of the spots that stood at first or were given by one of a troop, and that none of it takes."""
    return members(cut_bits(web, troop))


def state_of(web, troop):
    """The state of a troop: the places of its cut."""
    return tuple(sorted([web.spot_tuples[spot][0] for spot in cut(web, troop)]))


def going_on(web, troop):
    """The rising list of the occurrences that take spots of a troop's cut alone."""
    left = cut_bits(web, troop)
    takers = 0
    for spot in members(left):
        takers = takers | web.taker_bits[spot]
    # None of them is in the troop: the cut has no spot that one of the troop takes.
    return [one for one in members(takers) if bits_of(web.occurrence_tuples[one][1]) & ~left == 0]


def spots_for(web, troop, move):
    """The rising list of the spots of a troop's cut that a move would take; it may be done in the troop's state."""
    places = web.net().takes(move)
    return [spot for spot in cut(web, troop) if web.spot_tuples[spot][0] in places]


def followed(web, row):
    """The troop to which a row leads in a web, or None where the web lacks an occurrence for it."""
    # Played whole ahead of all else: a refusal goes ahead of a None, wherever in the row the two stand.
    played(web.net(), row)
    troop = []
    for move in row:
        occurrence = (move, tuple(spots_for(web, troop, move)))
        if occurrence not in web.numbers_there:
            return None
        troop = sorted(troop + [web.numbers_there[occurrence]])
    return troop
