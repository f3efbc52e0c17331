"""How occurrences and spots of a web stand to one another, and what may come."""

from unfoldnet.bits import bit, has, members


def causes(web, one):
    """The rising list of the causes of an occurrence."""
    web.must_have_occurrence(one)
    return [number for number in members(web.own_bits[one]) if number != one]


def shared_spot(web, some, others):
    """A tuple (first, second, spot): unlike ones of both sets of bits, and a spot that both take; or None."""
    for first in members(some):
        for spot in web.occurrence_tuples[first][1]:
            takers = members(web.taker_bits[spot] & others & ~bit(first))
            if takers:
                return (first, takers[0], spot)
    return None


def clash_at(web, one, other):
    """Where two occurrences clash, as a tuple (first, second, spot); or None."""
    web.must_have_occurrence(one)
    web.must_have_occurrence(other)
    # No own troop takes a spot twice: so an occurrence clashes neither with itself nor with its causes.
    return shared_spot(web, web.own_bits[one], web.own_bits[other])


def relation(web, one, other):
    """The one of the five words that holds of two occurrences."""
    web.must_have_occurrence(one)
    web.must_have_occurrence(other)
    if one == other:
        return "same"
    if has(web.own_bits[other], one):
        return "before"
    if has(web.own_bits[one], other):
        return "behind"
    return "beside" if clash_at(web, one, other) is None else "clash"


def spots_beside(web, one, other):
    """Whether two spots are side by side."""
    web.must_have_spot(one)
    web.must_have_spot(other)
    return has(web.beside_bits[one], other)


def fitting_spots(web, move, among):
    """The rising tuples of spots among those told, one of each place the move takes from, each two side by side."""
    # With each choice of spots goes what stands beside all of them.
    choices = [((), among)]
    for place in web.net().takes(move):
        longer = []
        for chosen, beside in choices:
            for spot in members(beside & web.place_bits[place]):
                longer.append((chosen + (spot,), beside & web.beside_bits[spot]))
        choices = longer
    return [tuple(sorted(chosen)) for chosen, beside in choices]


def comings(web):
    """The rising list of the tuples (move, spots) of all occurrences that may come."""
    every_spot = bit(len(web.spots())) - 1
    found = []
    for move in web.net().moves():
        for spots in fitting_spots(web, move, every_spot):
            if (move, spots) not in web.numbers_there:
                found.append((move, spots))
    return sorted(found)
