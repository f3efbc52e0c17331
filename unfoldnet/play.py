"""Play: moves done in states, rows of moves, and where a net crowds."""

from unfoldnet.errors import Full, Held, NoMove


def lacks_bead(net, state, move):
    """Whether a place from which the move takes has no bead."""
    return any([place not in state for place in net.takes(move)])


def gives_second(net, state, move):
    """Whether a place to which the move gives, and from which it does not take, has a bead."""
    taken = net.takes(move)
    return any([place in state and place not in taken for place in net.gives(move)])


def state_behind(net, state, move):
    """The state to which a move leads that may be done."""
    taken = net.takes(move)
    left = [place for place in state if place not in taken]
    return tuple(sorted(left + net.gives(move)))


def done_at(net, state, move, at):
    """The state behind a move that is number `at` of a row, or its refusal."""
    if move not in net.moves():
        raise NoMove(at)
    if lacks_bead(net, state, move):
        raise Held(at)
    if gives_second(net, state, move):
        raise Full(at)
    return state_behind(net, state, move)


def may(net, state):
    """The rising list of the moves that may be done in a state."""
    supplied = [move for move in net.moves() if not lacks_bead(net, state, move)]
    return [move for move in supplied if not gives_second(net, state, move)]


def done(net, state, move):
    """The state behind a move that is done by itself."""
    return done_at(net, state, move, 0)


def played(net, row):
    """The list of the states that a row comes by, the start's first."""
    states = [net.start()]
    for at, move in enumerate(row):
        states.append(done_at(net, states[-1], move, at))
    return states


def crowder(net, state):
    """A move that is refused with Full in a state, or None."""
    for move in net.moves():
        if not lacks_bead(net, state, move) and gives_second(net, state, move):
            return move
    return None


def newly_reached(net, states, ways):
    """The states that one more move leads to for the first time; `ways` is told how they came."""
    reached = []
    for state in states:
        for move in may(net, state):
            behind = state_behind(net, state, move)
            if behind not in ways:
                ways[behind] = (state, move)
                reached.append(behind)
    return reached


def row_by_ways(ways, state):
    """The row that the ways tell from the start to a state."""
    row = []
    way = ways[state]
    while way is not None:
        row.append(way[1])
        way = ways[way[0]]
    return list(reversed(row))


def shortest_row(net, last_in):
    """A row with as few moves as any whose last move is the one that `last_in` tells of the state ahead of it; or None.

    The moves ahead of the last one can be played; of each state `last_in` tells a move or None.
    """
    ways = {net.start(): None}
    states = [net.start()]
    # All states of one distance go ahead of those farther off, so the first row found is a shortest one.
    while states:
        for state in states:
            move = last_in(state)
            if move is not None:
                return row_by_ways(ways, state) + [move]
        states = newly_reached(net, states, ways)
    return None


def crowding(net):
    """A row with as few moves as any whose last move alone is refused, with Full; or None."""
    return shortest_row(net, lambda state: crowder(net, state))
