"""Rounds: what can come again and again, and from where there is no way back to the start's state."""

from unfoldnet.bits import bit, has
from unfoldnet.play import done, newly_reached, row_by_ways
from unfoldnet.states import open_moves, row_to


def states_behind(grown, state):
    """The list of the states to which one move leads from a state that the net can come to."""
    return [done(grown.net(), state, move) for move in open_moves(grown, state)]


def reach_bits(grown):
    """The dict of all states, in the order in which they are kept, each with the bits of the numbers, in this order,
    of those to which rows lead from it.
    """
    reach = dict([(state, bit(number)) for number, state in enumerate(grown.troop_by_state)])
    # From the farthest states on, so that the first turn finds most.
    steps = [(state, states_behind(grown, state)) for state in reversed(list(reach))]
    changed = True
    while changed:
        changed = False
        for state, behind in steps:
            bits = reach[state]
            for other in behind:
                bits = bits | reach[other]
            if bits != reach[state]:
                reach[state] = bits
                changed = True
    return reach


def way_between(net, one, other):
    """A row that leads from a state to another; there is one."""
    ways = {one: None}
    states = [one]
    while other not in ways:
        states = newly_reached(net, states, ways)
    return row_by_ways(ways, other)


def round_of(grown, move):
    """A tuple (row, ring): the row leads to a state, the ring, with the move in it, from there to the same; or None."""
    grown.net().must_have(move)
    reach = reach_bits(grown)
    for number, state in enumerate(grown.troop_by_state):
        if move in open_moves(grown, state):
            behind = done(grown.net(), state, move)
            if has(reach[behind], number):
                return (row_to(grown, state), [move] + way_between(grown.net(), behind, state))
    return None


def lost(grown):
    """A row to a state from which no row leads to the start's again, with as few moves as any; or None."""
    for state, reached in reach_bits(grown).items():
        # The start's state is kept as the first one.
        if not has(reached, 0):
            return row_to(grown, state)
    return None
