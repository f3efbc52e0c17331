"""The grown web: all that may come, in the order of own troops, as far as the stops; and each state's least troop."""

from unfoldnet.bits import bit, members
from unfoldnet.cuts import going_on, state_of
from unfoldnet.errors import NoOccurrence
from unfoldnet.ranks import level_names, rank
from unfoldnet.relations import comings, fitting_spots
from unfoldnet.troops import own
from unfoldnet.webs import Web


def comings_by(web, giver, free):
    """The tuples (move, spots) that may come with a spot that the last occurrence gave, all their spots being free."""
    given = members(web.given_bits[giver])
    found = []
    for move in web.net().moves():
        places = web.net().takes(move)
        wanted = [spot for spot in given if web.spot_tuples[spot][0] in places]
        if wanted:
            # The first one brings the others along: no other spot of their places stands beside it.
            among = free & (web.beside_bits[wanted[0]] | bit(wanted[0]))
            found.extend([(move, spots) for spots in fitting_spots(web, move, among)])
    return found


def put_by(web, waiting, found):
    """Puts tuples (move, spots) by in a dict of lists, by how many causes they would have."""
    for move, spots in found:
        waiting.setdefault(len(members(web.bits_ahead(spots))), []).append((move, spots))


def rank_once_there(web, move, spots):
    """The rank that the own troop of an occurrence would have, once it is there."""
    # All others of its own troop are its causes: so it has the last level to itself.
    return rank(level_names(web, members(web.bits_ahead(spots))) + [[move]])


def grow(web):
    """Lets all come that may, into a web without occurrences; tells the dict of the stops with their partners."""
    partners = {}
    first_with = {web.net().start(): None}
    free = bit(len(web.spots())) - 1
    waiting = {}
    put_by(web, waiting, comings(web))
    # What comes lets only such wait as have more causes than it: so those with the fewest are all known.
    while waiting:
        known = waiting.pop(min(waiting))
        for coming in sorted(known, key=lambda pair: rank_once_there(web, pair[0], pair[1])):
            number = web.add_occurrence(coming)
            state = state_of(web, own(web, number))
            if state in first_with:
                partners[number] = first_with[state]
            else:
                first_with[state] = number
                free = free | web.given_bits[number]
                put_by(web, waiting, comings_by(web, number, free))
    return partners


def longer_by_one(web, partners, troop):
    """The troops without stops to which a troop without stops, a tuple, comes by one more occurrence."""
    more = [one for one in going_on(web, troop) if one not in partners]
    return [tuple(sorted(troop + (one,))) for one in more]


def least_troops(web, partners):
    """The dict of all states that the net can come to, with the least troop of each, a tuple; the lesser come first."""
    least = {}
    troops = [()]
    # The least troop of a state has no stop and is, but for one occurrence, the least troop of another state: so
    # nothing need be looked for behind the other troops. Behind these, what leads on may be a stop.
    while troops:
        longer = []
        for troop in sorted(troops, key=lambda some: rank(level_names(web, some))):
            state = state_of(web, troop)
            if state not in least:
                least[state] = troop
                longer.extend(longer_by_one(web, partners, troop))
        troops = sorted(set(longer))
    return least


class Grown(Web):
    """The grown web of a net; it keeps, as nothing of it changes, the least troop of each state."""

    def __init__(self, net):
        Web.__init__(self, net)
        self.partner_by_stop = grow(self)
        self.troop_by_state = least_troops(self, self.partner_by_stop)

    def stops(self):
        """The rising list of the stops."""
        return sorted(self.partner_by_stop)

    def partner(self, one):
        """The first occurrence that came ahead of a stop with the same state; None where that is the start's."""
        if one not in self.partner_by_stop:
            raise NoOccurrence()
        return self.partner_by_stop[one]
